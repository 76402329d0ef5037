import Derived.Test.YtpkkmfppdhjpkaaGreatJPutM
import Derived.StillTailTactics
import Derived.Test.YtpkkmfppdhjpkaaGreatGa09
import Derived.Test.YtpkkmfppdhjpkaaGreatGa41

/- What the document keeps of records; whether two lists of entries are one. -/
namespace Go.Proofs.YtpkkmfppdhjpkaaGreat
set_option linter.unusedVariables false
open Go.RowKit
open Go.Lib (hid)

/-- A record's cells: its clock, its entry. -/
abbrev recL (r : Int × Ev) : List Value := .int .i64 r.1 :: r.2.list
theorem kR (r : Int × Ev) : (recL r).length = 20 := rfl
theorem kept_take {es : List Ev} {k : Nat} {e : Ev} (h : es[k]? = some e) : keptG idE (es.take (k + 1)) = placeG idE e (keptG idE (es.take k)) := by
  rw [takeN_snoc h, kept_snoc, place_eq]
theorem put_len (x : Ev) (es : List Ev) : (placeG idE x es).length ≤ es.length + 1 := by
  have h := stE_len x es
  show (putEnd x (stE x es)).length ≤ _
  unfold putEnd
  rcases hd : (stE x es).2 with _ | _
  · have := h.2 hd; simp; omega
  · simp; exact h.1
theorem kept_len (es : List Ev) : (keptG idE es).length ≤ es.length := by
  induction es using snocRec with
  | nil => simp [keptG]
  | snoc es e ih => rw [kept_snoc, ← place_eq]; have := put_len e (keptG idE es); simp; omega

set_option maxHeartbeats 4000000 in
set_option maxRecDepth 100000 in
theorem rKept {v : Value} {rs : List (Int × Ev)} {w : World} (h : SlG recL 20 w v rs) (hl : rs.length ≤ 900) : Calls Tryz.prog 14 #[v] w fun x w' => ∃ r c, x = .returned (.tuple #[r, .int .i64 c]) ∧ OwnR w' w.heap.size r (keptG idE (rs.map fun r => r.2)) ∧ Below w.heap.size w w' := by
  obtain ⟨b, o, cap, a, rfl, ha, hc, hb⟩ := h
  go_enter Tryz.func14, Tryz.ntmps14
  go_wp2_with fail
  go_loopw [4, 5, 6] (fun u d i wr => ∃ (k : Nat) (c : Int), k ≤ rs.length ∧ i = .int .i64 k ∧ d = .int .i64 c ∧ OwnR wr w.heap.size u (keptG idE ((rs.map fun r => r.2).take k)) ∧ Below w.heap.size w wr) (fun _ _ i _ => rs.length - (intOf i).toNat)
  case atStart => exact ⟨0, 0, Nat.zero_le _, rfl, rfl, OwnG.nil _ _ _ _ _, Below.refl _ _⟩
  case round =>
    obtain ⟨k, c, hk, rfl, rfl, hown, hB⟩ := hrel
    have HN := hid hown
    have HB := hid hB
    have HLN := hid (kept_len ((rs.map fun r => r.2).take k))
    have hP := fun e => rPut (x := e) (OwnG.slG kE HN.out) (by have := HLN.out; rw [List.length_take, List.length_map] at this; omega)
    obtain ⟨g0, cap0, n0, rfl, -⟩ := hown.asSlice
    clear hB hown HLN
    by_cases hlt : k < rs.length
    · obtain rfl := ha (by omega)
      obtain ⟨y, he⟩ : ∃ y, rs[k]? = some y := ⟨rs[k], List.getElem?_eq_getElem hlt⟩
      have hbw := hb (by omega)
      have hr := (hc.on HB.out fun _ => hbw) k y he
      have HY : Hid (wr.rangeAt b (o + k * 20 + 1) y.2.list) := hid fun j v hv => by
        have := hr (j + 1) v hv
        rw [show o + k * 20 + 1 + j = o + k * 20 + (j + 1) by omega]; exact this
      have HK : Hid (∀ W, Below w.heap.size w W → W.cell? ⟨b, o + k * 20, none⟩ = some (.int .i64 y.1)) := hid fun W hB => (hc.on hB fun _ => hbw) k y he 0 _ rfl
      have HE : Hid ((rs.map fun r => r.2)[k]? = some y.2) := hid (by rw [List.getElem?_map, he]; rfl)
      have HPY := hid (hP y.2)
      clear hc he hr hP
      go_wp2_with (first
        | ((with_reducible refine loadEl (T := 44) (x := ?lx1) (b := ?lb1) (o := ?lo1) uR iR y.2 ?lg1 ?lp1 ?lxx1 ?lc1 ?_); (case lg1 => rfl); (case lp1 => rfl); (case lxx1 => rfl); (case lc1 => exact HY.out))
        | (go_at_call 38; refine (HPY.out).mono ?_; rintro x w1 ⟨r1, rfl, hO1, hB1⟩; have HB1 := hid (HB.out.trans (hB1.mono HB.out.size)); have HO1 := hid (OwnG.mono hO1 HB.out.size); have k0 := HK.out _ HB1.out; obtain ⟨g1, cap1, n1, rfl, -⟩ := hO1.asSlice; clear hO1 hB1)
        | fail)
      go_roundw
      case rel => exact ⟨k + 1, y.1, by omega, by congr 1, rfl, by rw [kept_take HE.out]; exact HO1.out, HB1.out⟩
      case measure => simp [intOf]; omega
    · have hkk : k = rs.length := by omega
      subst hkk
      have HN2 : Hid (OwnR wr w.heap.size (.slice g0 n0 cap0) (keptG idE (rs.map fun r => r.2))) := hid (by have := HN.out; rwa [List.take_of_length_le (by simp)] at this)
      clear hP HN
      go_wp2_with fail
      go_ret2
      exact ⟨_, c, rfl, HN2.out, HB.out⟩

theorem stillEl {T : TypeId} (hu : ∃ d, Tryz.prog.underlying T = some d ∧ d.isRow = true) (hi : (Tryz.prog.info? T).map (·.size) = some 19) {ops : Array Oper} {rest : List Oper} {op : Oper} {a : Act} {w : World} {Q : Act → Prop} {x : Operand} {b o : Nat} (e : Ev) (hg : Region.wanted op (yielded ops a.tmps) = true) (ho : op.op = .load T x)
    (hx : a.eval x = .pointer (some ⟨b, o, none⟩)) (hc : w.rangeAt b o e.list) (h : wpStill Tryz.prog ops w Q rest (a.put op.dst (.agg e.arr))) : wpStill Tryz.prog ops w Q (op :: rest) a := by
  obtain ⟨d, h1, h2⟩ := hu
  refine wpStill_step fun K hK => ?_
  rw [if_pos hg]
  unfold Oper.still execOp
  simp only [ho, hx, Instr.loadAt, Instr.sureAddr, Sem.run_bind, Sem.run_pure, Result.andThen_ok, run_loadVar_mid w b o T e.list d hc h1 h2 (by rw [hi, Ev.len])]
  exact ⟨rfl, hK _ h⟩
/-- Two entries are the same. -/
abbrev sameEn (x y : En) : Bool := sameE x.e x.f x.a x.v y.e y.f y.a y.v
abbrev evs (xs : List En) : List Ev := xs.map En.e
theorem at_evs {xs : List En} {k : Nat} {x : En} (h : xs[k]? = some x) : (evs xs)[k]? = some x.e := by rw [List.getElem?_map, h]; rfl

set_option maxHeartbeats 4000000 in
set_option maxRecDepth 100000 in
theorem rSames {u v : Value} {xs ys : List En} {w : World} (h : SlE w u (evs xs)) (h' : SlE w v (evs ys)) (hx : AllAt w xs) (hy : AllAt w ys) (sx : ∀ x ∈ xs, x.short 100000) (sy : ∀ x ∈ ys, x.short 100000) (hlen : xs.length = ys.length) (hl : xs.length ≤ 100000) (hs : ∀ (k : Nat) (x y : En), xs[k]? = some x → ys[k]? = some y → sameEn x y = true) :
    Calls Tryz.prog 15 #[u, v] w fun x w' => x = .returned (.bool true) ∧ Below w.heap.size w w' := by
  obtain ⟨b, o, cap, a, rfl, ha, hc, hb⟩ := h
  obtain ⟨b', o', cap', a', rfl, ha', hc', hb'⟩ := h'
  have l1 : (evs xs).length = xs.length := by simp
  have l2 : (evs ys).length = xs.length := by simp [hlen]
  rw [l1] at ha hb ⊢
  rw [l2] at ha' hb' ⊢
  obtain ⟨n, hn⟩ : ∃ n, n = xs.length := ⟨_, rfl⟩
  rw [← hn] at ha ha' hb hb' hl ⊢
  have HL := hid (hid2 hn (hn.trans hlen))
  clear l1 l2 hn hlen
  go_enter Tryz.func15, Tryz.ntmps15
  go_wp2_with fail
  go_loopw [5] (fun i wr => ∃ (k : Nat), k ≤ n ∧ i = .int .i64 k ∧ Below w.heap.size w wr) (fun i _ => n - (intOf i).toNat)
  case atStart => exact ⟨0, Nat.zero_le _, rfl, Below.refl _ _⟩
  case round =>
    obtain ⟨k, hk, rfl, hB⟩ := hrel
    have HB := hid hB
    clear hB
    by_cases hlt : k < n
    · obtain rfl := ha (by omega)
      obtain rfl := ha' (by omega)
      obtain ⟨x, ex⟩ : ∃ x, xs[k]? = some x := ⟨xs[k]'(by have := HL.out; omega), List.getElem?_eq_getElem _⟩
      obtain ⟨y, ey⟩ : ∃ y, ys[k]? = some y := ⟨ys[k]'(by have := HL.out; omega), List.getElem?_eq_getElem _⟩
      have hbw := hb (by omega)
      have hbw' := hb' (by omega)
      have HX : Hid (wr.rangeAt b (o + k * 19) x.e.list) := hid ((hc.on HB.out fun _ => hbw) k _ (at_evs ex))
      have HY : Hid (wr.rangeAt b' (o' + k * 19) y.e.list) := hid ((hc'.on HB.out fun _ => hbw') k _ (at_evs ey))
      have mx : x ∈ xs := List.mem_of_getElem? ex
      have my : y ∈ ys := List.mem_of_getElem? ey
      have zx := (hx x mx)
      have zy := (hy y my)
      have HC : Hid (∀ W, Below w.heap.size w W → Calls Tryz.prog 39 #[.agg x.e.arr, .agg y.e.arr] W fun z w' => z = .returned (.bool true) ∧ Below W.heap.size W w') := hid fun W hb => by
        have zx := zx.on hb
        have zy := zy.on hb
        have := rSameE zx.1 zy.1 zx.2.1 zy.2.1 zx.2.2 zy.2.2 (sx x mx).1 (sy y my).1 (sx x mx).2.1 (sy y my).2.1 (sx x mx).2.2 (sy y my).2.2
        rwa [show sameE x.e x.f x.a x.v y.e y.f y.a y.v = true from hs k x y ex ey] at this
      clear hc hc' ex ey hx hy sx sy zx zy hs mx my
      go_wp2_with fail
      refine wp_region_still_tail 8 (by kernel_rfl) (by kernel_rfl) ?_
      obtain ⟨W1, hW1⟩ : ∃ W1 : World, W1 = { wr with drawn := wr.drawn + 1 } := ⟨_, rfl⟩
      rw [← hW1]
      replace HX : Hid (W1.rangeAt b (o + k * 19) x.e.list) := hid (by rw [hW1]; exact HX.out)
      replace HY : Hid (W1.rangeAt b' (o' + k * 19) y.e.list) := hid (by rw [hW1]; exact HY.out)
      replace HB : Hid (Below w.heap.size w W1) := hid (by rw [hW1]; exact belowDrew HB.out)
      clear hW1
      simp only [List.take_succ_cons, List.take_zero, List.drop_succ_cons, List.drop_zero]
      still_step
      still_step
      still_step
      refine stillEl uR iR x.e rfl rfl rfl HX.out ?_
      still_step
      still_step
      still_step
      refine stillEl uR iR y.e rfl rfl rfl HY.out ?_
      refine wpStill_nil ?_
      go_wp2_with (go_at_call 39; refine (HC.out _ HB.out).mono ?_; rintro z w1 ⟨rfl, hB1⟩; have HB1 := hid (HB.out.trans (hB1.mono HB.out.size)); clear hB1)
      go_roundw
      case rel => exact ⟨k + 1, by omega, by congr 1, HB1.out⟩
      case measure => simp [intOf]; omega
    · have hkk : k = n := by omega
      subst hkk
      go_wp2_with fail
      go_ret
      exact ⟨rfl, HB.out⟩
end Go.Proofs.YtpkkmfppdhjpkaaGreat
/- Entries by value: the law's Fits. -/
namespace Go.Proofs.YtpkkmfppdhjpkaaGreat
set_option linter.unusedVariables false
open Go.RowKit
open Go.Lib (hid)

def fitsE (e : Ev) : Bool := decide (e.fp.n ≤ 80) && decide (e.xp.n ≤ 80) && decide (e.vp.n ≤ 80)
set_option maxHeartbeats 1200000 in
set_option maxRecDepth 100000 in
theorem cFits (e : Ev) (w : World) : Calls Tryz.prog 16 #[.agg e.arr] w fun x w' => x = .returned (.bool (fitsE e)) ∧ Below w.heap.size w w' := by
  have c11 := newE_cell w e 48 (j := 11) rfl
  have c14 := newE_cell w e 48 (j := 14) rfl
  have c18 := newE_cell w e 48 (j := 18) rfl
  have hb : Below w.heap.size w (w.alloc (.cells e.arr 48)) := (Below.refl _ w).alloc (Nat.le_refl _) _
  by_cases h1 : e.fp.n ≤ 80
  · by_cases h2 : e.xp.n ≤ 80
    · by_cases h3 : e.vp.n ≤ 80
      all_goals (
        go_enter Tryz.func16, Tryz.ntmps16
        go_wp2
        go_ret
        exact ⟨ret_bool (by unfold fitsE; simp [h1, h2, h3]; try omega), hb⟩)
    · go_enter Tryz.func16, Tryz.ntmps16
      go_wp2
      go_ret
      exact ⟨ret_bool (by unfold fitsE; simp [h1, h2]; try omega), hb⟩
  · go_enter Tryz.func16, Tryz.ntmps16
    go_wp2
    go_ret
    exact ⟨ret_bool (by unfold fitsE; simp [h1]; try omega), hb⟩
end Go.Proofs.YtpkkmfppdhjpkaaGreat
/- The law's mathematics: records one by one, how many are synced, what is kept. -/
namespace Go.Proofs.YtpkkmfppdhjpkaaGreat
set_option linter.unusedVariables false
open Go.RowKit Go.Maps
open Go.Lib (hid)

/-- The records of entries that are put one by one, each at its number. -/
def rsOf (xs : List En) : List (Nat × En) := xs.mapIdx fun i x => (i, x)
theorem rs_len (xs : List En) : (rsOf xs).length = xs.length := by simp [rsOf]
theorem rs_at {xs : List En} {k : Nat} {x : En} (h : xs[k]? = some x) : (rsOf xs)[k]? = some (k, x) := by simp [rsOf, h]
theorem rs_inv {xs : List En} {k : Nat} {r : Nat × En} (h : (rsOf xs)[k]? = some r) : r.1 = k ∧ xs[k]? = some r.2 := by
  simp only [rsOf, List.getElem?_mapIdx, Option.map_eq_some_iff] at h
  obtain ⟨x, hx, rfl⟩ := h
  exact ⟨rfl, hx⟩
theorem rs_take {xs : List En} {k : Nat} {x : En} (h : xs[k]? = some x) : (rsOf xs).take (k + 1) = (rsOf xs).take k ++ [(k, x)] := take_snocG (rs_at h)
theorem rs_snd (xs : List En) (k : Nat) : ((rsOf xs).take k).map (fun r => r.2) = xs.take k := by
  rw [List.map_take]
  congr 1
  apply List.ext_getElem?
  intro i
  simp only [rsOf, List.getElem?_map, List.getElem?_mapIdx]
  rcases xs[i]? with _ | x <;> rfl
theorem rs_last (xs : List En) (k : Nat) (hk : k ≤ xs.length) : lastC ((rsOf xs).take k) = k - 1 := by
  rcases k with _ | k
  · rfl
  · rw [rs_take (List.getElem?_eq_getElem (show k < xs.length by omega)), lastC_snoc]; simp
theorem rs_fine {xs : List En} {k : Nat} (hk : k ≤ xs.length) (hk2 : k ≤ 1000) (h : ∀ (m : Nat) x, m < k → xs[m]? = some x → x.right = true ∧ x.short 80) : FineR ((rsOf xs).take k) := fun m r hm => by
  have hlt := (List.getElem?_eq_some_iff.1 hm).1
  rw [List.length_take] at hlt
  rw [List.getElem?_take_of_lt (by omega)] at hm
  obtain ⟨h1, h2⟩ := rs_inv hm
  obtain ⟨h3, h4⟩ := h m _ (by omega) h2
  refine ⟨h3, h4, by omega, ?_⟩
  rw [List.take_take, show min m k = m by omega, rs_last xs m (by omega)]
  omega
theorem log_len : ∀ {rs : List (Nat × En)}, FineR rs → (logB rs).length ≤ rs.length * 11006 := by
  intro rs
  induction rs using snocRec with
  | nil => intro _; simp [logB_nil]
  | snoc rs r ih =>
    intro h
    have h1 : FineR rs := by
      have := h.take rs.length
      rwa [List.take_left] at this
    have h2 := h rs.length r (by simp)
    have h3 := rec_len h2.1 h2.2.1 h2.2.2.1
    have := ih h1
    rw [logB_snoc, List.length_append, frame_len, List.length_append, List.length_singleton]
    omega
/-- How many records are synced, when so many were put. -/
def mOf (synced : Int) (k : Nat) : Nat := if synced < 0 then 0 else if (k : Int) ≤ synced then 0 else synced.toNat
theorem mOf_0 (synced : Int) : mOf synced 0 = 0 := by
  unfold mOf; split
  · rfl
  · split
    · rfl
    · omega
theorem mOf_le (synced : Int) (k : Nat) : mOf synced k ≤ k := by
  unfold mOf; split
  · omega
  · split <;> omega
theorem mOf_at {synced : Int} {k : Nat} (h : (k : Int) = synced) : mOf synced (k + 1) = k := by unfold mOf; rw [if_neg (by omega), if_neg (by omega)]; omega
theorem mOf_not {synced : Int} {k : Nat} (h : ¬ (k : Int) = synced) : mOf synced (k + 1) = mOf synced k := by
  unfold mOf
  by_cases h0 : synced < 0
  · rw [if_pos h0, if_pos h0]
  · rw [if_neg h0, if_neg h0]
    by_cases h1 : (k : Int) ≤ synced
    · rw [if_pos h1, if_pos (by omega)]
    · rw [if_neg h1, if_neg (by omega)]
/-- How many are synced in the end. -/
def mF (synced : Int) (n : Nat) : Nat := if synced < 0 then 0 else min synced.toNat n
theorem mF_le (synced : Int) (n : Nat) : mF synced n ≤ n := by unfold mF; split <;> omega
theorem mF_all {synced : Int} {n : Nat} (h : (n : Int) ≤ synced) : mF synced n = n := by unfold mF; rw [if_neg (by omega)]; omega
theorem mF_some {synced : Int} {n : Nat} (h : ¬ (n : Int) ≤ synced) : mF synced n = mOf synced n := by
  unfold mF mOf
  by_cases h0 : synced < 0
  · rw [if_pos h0, if_pos h0]
  · rw [if_neg h0, if_neg h0, if_neg h]; omega
theorem mF_eq {synced : Int} {n : Nat} (h : 0 ≤ synced) : (mF synced n : Int) = min synced n := by unfold mF; rw [if_neg (by omega)]; omega

theorem ct_same {x y : En} (h : x.ct = y.ct) : sameEn x y = true := by
  obtain ⟨e, f, a, v⟩ := x
  obtain ⟨e', f', a', v'⟩ := y
  have h1 := congrArg Prod.fst h
  have h2 := congrArg (fun t => t.2.1) h
  have h3 := congrArg (fun t => t.2.2.1) h
  have h4 := congrArg (fun t => t.2.2.2) h
  simp only [En.ct] at h1 h2 h3 h4
  subst h2 h3 h4
  obtain ⟨c, b1, b2, b3, b4, b5, b6, b7, b8, b9, b10, b11, b12⟩ := e
  obtain ⟨c', d1, d2, d3, d4, d5, d6, d7, d8, d9, d10, d11, d12⟩ := e'
  simp only [Ev.mk.injEq] at h1
  obtain ⟨rfl, rfl, rfl, rfl, rfl, -, rfl, rfl, -, rfl, rfl, rfl, -⟩ := h1
  unfold sameEn sameE sameB
  simp [C7.same_iff.2]
theorem ct_kept {xs ys : List En} (h : ys.map En.ct = xs.map En.ct) : (keptG En.id ys).map En.ct = (keptG En.id xs).map En.ct := by
  rw [kept_map En.id (k' := fun t : Ev × List C7 × List C7 × List C7 => t.1.c.i) En.ct (fun y => rfl), kept_map En.id (k' := fun t : Ev × List C7 × List C7 × List C7 => t.1.c.i) En.ct (fun y => rfl), h]
theorem kept_evs (xs : List En) : keptG idE (evs xs) = evs (keptG En.id xs) := (kept_map En.id (k' := idE) En.e (fun y => rfl) xs).symm
theorem keptG_sub (xs : List En) : ∀ x ∈ keptG En.id xs, x ∈ xs := fun x hx => (look_key En.id xs _ x ((kept_mem En.id xs x).1 hx)).2
theorem ct_short {x y : En} (h : x.ct = y.ct) {n : Nat} (hs : y.short n) : x.short n := by
  have h2 : x.f = y.f := congrArg (fun t => t.2.1) h
  have h3 : x.a = y.a := congrArg (fun t => t.2.2.1) h
  have h4 : x.v = y.v := congrArg (fun t => t.2.2.2) h
  unfold En.short
  rw [h2, h3, h4]; exact hs
theorem Sl.lenS {w : World} {p : Sv} {l : List C7} (h : Sl w p.v l) : p.n = l.length := by
  obtain ⟨_, _, cap, a, hv', _⟩ := id h
  injection hv'
theorem fits_short {w : World} {x : En} (h : x.at w) (hf : fitsE x.e = true) : x.short 80 := by
  unfold fitsE at hf
  simp only [Bool.and_eq_true, decide_eq_true_eq] at hf
  rw [h.1.lenS, h.2.1.lenS, h.2.2.lenS] at hf
  exact ⟨hf.1.1, hf.1.2, hf.2⟩
end Go.Proofs.YtpkkmfppdhjpkaaGreat
