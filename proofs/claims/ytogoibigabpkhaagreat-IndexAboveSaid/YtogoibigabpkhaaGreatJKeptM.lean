import Derived.Test.YtogoibigabpkhaaGreatG11
import Derived.StillTailTactics

/- What the document keeps of records; whether two lists of entries are one. -/
namespace Go.Proofs.YtogoibigabpkhaaGreat
set_option linter.unusedVariables false
open Go.RowKit
open Go.Lib (hid)

/-- A record's cells: its clock, its entry. -/
abbrev recL (r : Int × Ev) : List Value := .int .i64 r.1 :: r.2.list
theorem kR (r : Int × Ev) : (recL r).length = 20 := rfl
theorem kept_take {es : List Ev} {k : Nat} {e : Ev} (h : es[k]? = some e) : keptG idE (es.take (k + 1)) = placeG idE e (keptG idE (es.take k)) := by
  rw [takeN_snoc h, kept_snoc, place_eq]
theorem put_len (x : Ev) (es : List Ev) : (placeG idE x es).length ≤ es.length + 1 := by
  have h := stE_len x es
  show (putEnd x (stE x es)).length ≤ _
  unfold putEnd
  rcases hd : (stE x es).2 with _ | _
  · have := h.2 hd; simp; omega
  · simp; exact h.1
theorem kept_len (es : List Ev) : (keptG idE es).length ≤ es.length := by
  induction es using snocRec with
  | nil => simp [keptG]
  | snoc es e ih => rw [kept_snoc, ← place_eq]; have := put_len e (keptG idE es); simp; omega

theorem stillEl {T : TypeId} (hu : ∃ d, Tryz.prog.underlying T = some d ∧ d.isRow = true) (hi : (Tryz.prog.info? T).map (·.size) = some 19) {ops : Array Oper} {rest : List Oper} {op : Oper} {a : Act} {w : World} {Q : Act → Prop} {x : Operand} {b o : Nat} (e : Ev) (hg : Region.wanted op (yielded ops a.tmps) = true) (ho : op.op = .load T x)
    (hx : a.eval x = .pointer (some ⟨b, o, none⟩)) (hc : w.rangeAt b o e.list) (h : wpStill Tryz.prog ops w Q rest (a.put op.dst (.agg e.arr))) : wpStill Tryz.prog ops w Q (op :: rest) a := by
  obtain ⟨d, h1, h2⟩ := hu
  refine wpStill_step fun K hK => ?_
  rw [if_pos hg]
  unfold Oper.still execOp
  simp only [ho, hx, Instr.loadAt, Instr.sureAddr, Sem.run_bind, Sem.run_pure, Result.andThen_ok, run_loadVar_mid w b o T e.list d hc h1 h2 (by rw [hi, Ev.len])]
  exact ⟨rfl, hK _ h⟩
/-- Two entries are the same. -/
abbrev sameEn (x y : En) : Bool := sameE x.e x.f x.a x.v y.e y.f y.a y.v
abbrev evs (xs : List En) : List Ev := xs.map En.e
theorem at_evs {xs : List En} {k : Nat} {x : En} (h : xs[k]? = some x) : (evs xs)[k]? = some x.e := by rw [List.getElem?_map, h]; rfl

set_option maxHeartbeats 4000000 in
set_option maxRecDepth 100000 in
theorem rSames {u v : Value} {xs ys : List En} {w : World} (h : SlE w u (evs xs)) (h' : SlE w v (evs ys)) (hx : AllAt w xs) (hy : AllAt w ys) (sx : ∀ x ∈ xs, x.short 100000) (sy : ∀ x ∈ ys, x.short 100000) (hlen : xs.length = ys.length) (hl : xs.length ≤ 100000) (hs : ∀ (k : Nat) (x y : En), xs[k]? = some x → ys[k]? = some y → sameEn x y = true) :
    Calls Tryz.prog 11 #[u, v] w fun x w' => x = .returned (.bool true) ∧ Below w.heap.size w w' := by
  obtain ⟨b, o, cap, a, rfl, ha, hc, hb⟩ := h
  obtain ⟨b', o', cap', a', rfl, ha', hc', hb'⟩ := h'
  have l1 : (evs xs).length = xs.length := by simp
  have l2 : (evs ys).length = xs.length := by simp [hlen]
  rw [l1] at ha hb ⊢
  rw [l2] at ha' hb' ⊢
  obtain ⟨n, hn⟩ : ∃ n, n = xs.length := ⟨_, rfl⟩
  rw [← hn] at ha ha' hb hb' hl ⊢
  have HL := hid (hid2 hn (hn.trans hlen))
  clear l1 l2 hn hlen
  go_enter Tryz.func11, Tryz.ntmps11
  go_wp2_with fail
  go_loopw [5] (fun i wr => ∃ (k : Nat), k ≤ n ∧ i = .int .i64 k ∧ Below w.heap.size w wr) (fun i _ => n - (intOf i).toNat)
  case atStart => exact ⟨0, Nat.zero_le _, rfl, Below.refl _ _⟩
  case round =>
    obtain ⟨k, hk, rfl, hB⟩ := hrel
    have HB := hid hB
    clear hB
    by_cases hlt : k < n
    · obtain rfl := ha (by omega)
      obtain rfl := ha' (by omega)
      obtain ⟨x, ex⟩ : ∃ x, xs[k]? = some x := ⟨xs[k]'(by have := HL.out; omega), List.getElem?_eq_getElem _⟩
      obtain ⟨y, ey⟩ : ∃ y, ys[k]? = some y := ⟨ys[k]'(by have := HL.out; omega), List.getElem?_eq_getElem _⟩
      have hbw := hb (by omega)
      have hbw' := hb' (by omega)
      have HX : Hid (wr.rangeAt b (o + k * 19) x.e.list) := hid ((hc.on HB.out fun _ => hbw) k _ (at_evs ex))
      have HY : Hid (wr.rangeAt b' (o' + k * 19) y.e.list) := hid ((hc'.on HB.out fun _ => hbw') k _ (at_evs ey))
      have mx : x ∈ xs := List.mem_of_getElem? ex
      have my : y ∈ ys := List.mem_of_getElem? ey
      have zx := (hx x mx)
      have zy := (hy y my)
      have HC : Hid (∀ W, Below w.heap.size w W → Calls Tryz.prog 40 #[.agg x.e.arr, .agg y.e.arr] W fun z w' => z = .returned (.bool true) ∧ Below W.heap.size W w') := hid fun W hb => by
        have zx := zx.on hb
        have zy := zy.on hb
        have := rSameE zx.1 zy.1 zx.2.1 zy.2.1 zx.2.2 zy.2.2 (sx x mx).1 (sy y my).1 (sx x mx).2.1 (sy y my).2.1 (sx x mx).2.2 (sy y my).2.2
        rwa [show sameE x.e x.f x.a x.v y.e y.f y.a y.v = true from hs k x y ex ey] at this
      clear hc hc' ex ey hx hy sx sy zx zy hs mx my
      go_wp2_with fail
      refine wp_region_still_tail 8 (by kernel_rfl) (by kernel_rfl) ?_
      obtain ⟨W1, hW1⟩ : ∃ W1 : World, W1 = { wr with drawn := wr.drawn + 1 } := ⟨_, rfl⟩
      rw [← hW1]
      replace HX : Hid (W1.rangeAt b (o + k * 19) x.e.list) := hid (by rw [hW1]; exact HX.out)
      replace HY : Hid (W1.rangeAt b' (o' + k * 19) y.e.list) := hid (by rw [hW1]; exact HY.out)
      replace HB : Hid (Below w.heap.size w W1) := hid (by rw [hW1]; exact belowDrew HB.out)
      clear hW1
      simp only [List.take_succ_cons, List.take_zero, List.drop_succ_cons, List.drop_zero]
      still_step
      still_step
      still_step
      refine stillEl uR iR x.e rfl rfl rfl HX.out ?_
      still_step
      still_step
      still_step
      refine stillEl uR iR y.e rfl rfl rfl HY.out ?_
      refine wpStill_nil ?_
      go_wp2_with (go_at_call 40; refine (HC.out _ HB.out).mono ?_; rintro z w1 ⟨rfl, hB1⟩; have HB1 := hid (HB.out.trans (hB1.mono HB.out.size)); clear hB1)
      go_roundw
      case rel => exact ⟨k + 1, by omega, by congr 1, HB1.out⟩
      case measure => simp [intOf]; omega
    · have hkk : k = n := by omega
      subst hkk
      go_wp2_with fail
      go_ret
      exact ⟨rfl, HB.out⟩
end Go.Proofs.YtogoibigabpkhaaGreat
