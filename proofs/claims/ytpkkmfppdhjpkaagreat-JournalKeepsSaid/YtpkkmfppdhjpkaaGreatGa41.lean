import Derived.Test.YtpkkmfppdhjpkaaGreatJOpenM
import Derived.Test.YtpkkmfppdhjpkaaGreatGa40
import Derived.Test.YtpkkmfppdhjpkaaGreatGa33
import Derived.Test.YtpkkmfppdhjpkaaGreatGa28
import Derived.LoopTactic
/- Sync, Crash and Open of a journal's disk, told of the whole state; a log that lost its end. -/
namespace Go.Proofs.YtpkkmfppdhjpkaaGreat
set_option linter.unusedVariables false
open Go.RowKit Go.Maps
open Go.Lib (hid)

section
variable {w : World} {B j p b n s : Nat} {room c : Int} {xs : List En} {log : List UInt8}
theorem JSt.lt (h : JSt w B j p b n room c xs s log) : B ≤ w.heap.size := Nat.le_trans h.hj (Nat.le_of_lt (Array.getElem?_eq_some_iff.1 h.jn).1)
theorem JSt.kept (h : JSt w B j p b n room c xs s log) {w' : World} {v v' : Value} {s' : Nat} {log' : List UInt8} (hd : Dk w p room v s) (hg : w.grownBy w' (some p)) (hd' : Dk w' p room v' s') (hv' : OwnB w' B v' log') : JSt w' B j p b n room c xs s' log' ∧ Below B w w' ∧ KeepsE w w' := by
  have hT := Tch.ofGrown (S := fun k => k = p) hg fun k e => (Option.some.inj e).symm
  obtain ⟨es, clk, hm⟩ := h.mp.obj
  have nj : ¬ (j = p) := Tri.ne hd h.jn (fun cur e => by cases e)
  have nb : ¬ (b = p) := Tri.ne hd hm (fun cur e => by cases e)
  exact ⟨⟨hT.ob h.jn nj, h.mp.keptT hT nb, ⟨v', hd', hv'⟩, h.hj, h.hb, h.hp⟩, hT.below (fun k e => e ▸ h.hp) h.lt, KeepsE.tch hT fun k cur hk e => Tri.ne hd hk (fun cur e => by cases e) e⟩
theorem cSyncS (h : JSt w B j p b n room c xs s log) : Calls Tryz.prog 10 #[ptr j] w fun z w' => z = .returned (.tuple #[]) ∧ JSt w' B j p b n room c xs log.length log ∧ Below B w w' ∧ KeepsE w w' := by
  obtain ⟨v, hd, hv⟩ := h.dk
  refine (cJSync h.jn hd hv.slb).mono ?_
  rintro z w' ⟨rfl, hd', hg⟩
  have hv' : OwnB w' B v log := ownTch hv (Tch.ofGrown (S := fun k => k = p) hg fun k e => (Option.some.inj e).symm) fun k hk e => Tri.apart hd (by decide) hv (by rw [hk, e])
  exact ⟨rfl, h.kept hd hg hd' hv'⟩
theorem cCrashS (h : JSt w B j p b n room c xs s log) (hs : s ≤ log.length) (hl : log.length ≤ 1000000) (keep : Int) : Calls Tryz.prog 12 #[ptr p, .int .i64 keep] w fun z w' => z = .returned (.tuple #[]) ∧ (∃ v, Dk w' p room v (crashN log.length s keep) ∧ OwnB w' B v (log.take (crashN log.length s keep))) ∧ Below B w w' := by
  obtain ⟨v, hd, hv⟩ := h.dk
  refine (cCrash hd hv hs hl keep).mono ?_
  rintro z w' ⟨rfl, ⟨v', hd', hv', _⟩, hg⟩
  exact ⟨rfl, ⟨v', hd', hv'⟩, (h.kept hd hg hd' hv').2.1⟩
end
/-- The log of records. -/
abbrev recsB (rs : List (Nat × En)) : List (List UInt8) := rs.map fun r => recB r.1 r.2
def logB (rs : List (Nat × En)) : List UInt8 := framesB (recsB rs)
theorem logB_nil : logB [] = [] := rfl
theorem logB_snoc (rs : List (Nat × En)) (r : Nat × En) : logB (rs ++ [r]) = logB rs ++ frameB (recB r.1 r.2) := by unfold logB recsB; rw [List.map_append, List.map_singleton, frames_snoc]
/-- Records that may be put. -/
def FineR (rs : List (Nat × En)) : Prop := ∀ (k : Nat) r, rs[k]? = some r → r.2.right = true ∧ r.2.short 80 ∧ r.1 ≤ 65535 ∧ lastC (rs.take k) ≤ r.1
theorem FineR.fine {rs : List (Nat × En)} (h : FineR rs) : FineL (recsB rs) := fun l hl => by
  obtain ⟨r, hr, rfl⟩ := List.mem_map.1 hl
  obtain ⟨k, hk⟩ := List.getElem?_of_mem hr
  obtain ⟨h1, h2, h3, _⟩ := h k r hk
  have := rec_len h1 h2 h3
  exact ⟨this.1, by omega⟩
theorem FineR.take {rs : List (Nat × En)} (h : FineR rs) (n : Nat) : FineR (rs.take n) := fun k r hk => by
  have hlt := (List.getElem?_eq_some_iff.1 hk).1
  rw [List.length_take] at hlt
  rw [List.getElem?_take_of_lt (by omega)] at hk
  obtain ⟨h1, h2, h3, h4⟩ := h k r hk
  refine ⟨h1, h2, h3, ?_⟩
  rw [List.take_take, show min k n = k by omega]; exact h4
/-- Behind a crash: the log of a number of records is there, and nothing that was synced is gone. -/
theorem crash_log {rs : List (Nat × En)} (h : FineR rs) {m : Nat} (hm : m ≤ rs.length) (keep : Int) : ∃ n, n ≤ rs.length ∧ m ≤ n ∧ (keep ≤ 0 → n = m) ∧ crashN (logB rs).length (logB (rs.take m)).length keep ≤ (logB rs).length ∧
    scanN ((logB rs).take (crashN (logB rs).length (logB (rs.take m)).length keep)) = (recsB (rs.take n), (logB (rs.take n)).length) ∧ (logB (rs.take n)).length ≤ crashN (logB rs).length (logB (rs.take m)).length keep ∧ (n < rs.length → crashN (logB rs).length (logB (rs.take m)).length keep < (logB (rs.take (n + 1))).length) := by
  have hlen : (recsB rs).length = rs.length := List.length_map _
  have hle : (logB (rs.take m)).length ≤ (logB rs).length := by
    have := frames_take_le (recsB rs) hm
    rw [← hlen, List.take_length] at this
    unfold logB; rw [show recsB (rs.take m) = (recsB rs).take m from List.map_take ..]; exact this
  have hk : crashN (logB rs).length (logB (rs.take m)).length keep ≤ (logB rs).length := by unfold crashN; omega
  have hk0 : (logB (rs.take m)).length ≤ crashN (logB rs).length (logB (rs.take m)).length keep := by unfold crashN; omega
  have hk1 : keep ≤ 0 → crashN (logB rs).length (logB (rs.take m)).length keep = (logB (rs.take m)).length := by unfold crashN; omega
  generalize crashN (logB rs).length (logB (rs.take m)).length keep = kk at hk hk0 hk1 ⊢
  obtain ⟨n, h1, h2, h3, h4⟩ := torn_any h.fine hk
  rw [hlen] at h1 h4
  have et : ∀ n, recsB (rs.take n) = (recsB rs).take n := fun n => List.map_take ..
  have el : ∀ n, (logB (rs.take n)).length = (framesB ((recsB rs).take n)).length := fun n => by unfold logB; rw [et]
  have hmn : m ≤ n := Nat.le_of_not_lt fun hlt => by
    have := h4 (by omega)
    have := frames_take_le (recsB rs) (show n + 1 ≤ m from hlt)
    rw [el] at hk0
    omega
  refine ⟨n, h1, hmn, fun h0 => ?_, hk, ?_, ?_, ?_⟩
  · have := hk1 h0
    rw [el] at this
    rcases Nat.lt_or_ge m n with hlt | hge
    · have := frames_take_lt (recsB rs) hlt (by omega); omega
    · omega
  · rw [et, el]; exact h2
  · rw [el]; exact h3
  · intro h0; rw [el]; exact h4 h0
end Go.Proofs.YtpkkmfppdhjpkaaGreat


/- Entries as the document has them: the law's Of. -/
namespace Go.Proofs.YtpkkmfppdhjpkaaGreat
set_option linter.unusedVariables false
open Go.RowKit
open Go.Lib (hid)

theorem loadEl {T : TypeId} (hu : ∃ d, Tryz.prog.underlying T = some d ∧ d.isRow = true) (hi : (Tryz.prog.info? T).map (·.size) = some 19) {ops : Array Oper} {rest : List Oper} {op : Oper} {a : Act} {w : World} {Q : Exit → Act → World → Prop} {x : Operand} {b o : Nat} (e : Ev) (hgd : op.guard = none) (ho : op.op = .load T x)
    (hx : a.eval x = .pointer (some ⟨b, o, none⟩)) (hc : w.rangeAt b o e.list) (h : wpList Tryz.prog ops Q rest (a.put op.dst (.agg e.arr)) w) : wpList Tryz.prog ops Q (op :: rest) a w := by
  obtain ⟨d, h1, h2⟩ := hu
  exact wpList_load_mid hgd T x ho b o hx e.list d hc h1 h2 (by rw [hi, Ev.len]) h
theorem uE : ∃ d, Tryz.prog.underlying 48 = some d ∧ d.isRow = true := ⟨_, Tryz.underlying48, rfl⟩
theorem uR : ∃ d, Tryz.prog.underlying 44 = some d ∧ d.isRow = true := ⟨_, Tryz.underlying44, rfl⟩
theorem iE : (Tryz.prog.info? 48).map (·.size) = some 19 := by kernel_rfl
theorem iR : (Tryz.prog.info? 44).map (·.size) = some 19 := by kernel_rfl

theorem hid2 {p q : Prop} (a : p) (b : q) : p ∧ q := ⟨a, b⟩
set_option maxHeartbeats 4000000 in
set_option maxRecDepth 100000 in
theorem rOf {v : Value} {es : List Ev} {w : World} (h : SlE w v es) (hl : es.length ≤ 100000) : Calls Tryz.prog 9 #[v] w fun e w' => ∃ r, e = .returned r ∧ OwnR w' w.heap.size r es ∧ Below w.heap.size w w' := by
  have hO := cOf
  obtain ⟨b, o, cap, a, rfl, ha, hc, hb⟩ := h
  obtain ⟨i0, hi, hz0, hz1, hz2⟩ := info_parts Tryz.infoRz
  go_enter Tryz.func9, Tryz.ntmps9
  go_wp2
  go_loopw [3, 4] (fun u i wr => ∃ (k : Nat), k ≤ es.length ∧ i = .int .i64 k ∧ OwnR wr w.heap.size u (es.take k) ∧ Below w.heap.size w wr) (fun _ i _ => es.length - (intOf i).toNat)
  case atStart => exact ⟨0, Nat.zero_le _, rfl, OwnG.nil _ _ _ _ _, Below.refl _ _⟩
  case round =>
    obtain ⟨k, hk, rfl, hown, hB⟩ := hrel
    have hsz := hB.size
    have HB := hid hB
    have HBB := hid hB
    have HN := hid hown
    have HKL : Hid ((es.take k).length ≤ 100000) := hid (by rw [List.length_take]; omega)
    obtain ⟨g0, cap0, n0, rfl, -⟩ := hown.asSlice
    clear hB hown
    by_cases hlt : k < es.length
    · obtain rfl := ha (by omega)
      obtain ⟨e, he⟩ : ∃ e, es[k]? = some e := ⟨es[k], List.getElem?_eq_getElem hlt⟩
      have hbw := hb (by omega)
      have HC : Hid (wr.rangeAt b (o + k * 19) e.list) := hid ((hc.on HB.out fun _ => hbw) k e he)
      have HE := hid he
      clear hc he
      go_wp2_with (first
        | ((with_reducible refine loadEl (T := 48) (x := ?lx1) (b := ?lb1) (o := ?lo1) uE iE e ?lg1 ?lp1 ?lxx1 ?lc1 ?_); (case lg1 => rfl); (case lp1 => rfl); (case lxx1 => rfl); (case lc1 => exact HC.out))
        | (go_at_call 28; refine (hO e _).mono ?_; rintro x w1 ⟨rfl, hB1⟩; have HB1 := hid (HB.out.trans (hB1.mono HB.out.size)); have HO := hid (OwnG.on HN.out hB1); have hs1 := HB1.out.size; clear hB1)
        | ((with_reducible refine wpList_bsR (x := ?bx2) e ?bg2 ?bo2 ?bv2 ?_); (case bg2 => rfl); (case bo2 => rfl); (case bv2 => rfl); intro W2 hN hB2; have hs2 := hB2.size; have HN2 := hid hN; have HO2 := hid (OwnG.on HO.out hB2); have HB2 := hid (HB1.out.trans (hB2.mono hs1)); clear hN hB2)
        | (at_builtin; go_loud ((with_reducible refine wpList_apR (s := ?as3) (x := ?ax3) (es := es.take k) (B := w.heap.size) (q := w1.heap.size) e ?ag3 ?ao3 ?av3 ?aw3 HO2.out HN2.out HKL.out (Nat.le_trans hs1 hs2) ?_); (case ag3 => rfl); (case ao3 => rfl); (case av3 => rfl); (case aw3 => rfl); intro v' w3 hO3 hg; have HX := hid (hid2 hO3 (HB2.out.grown hg (by omega) (fun j hj => (HO2.out.lt j hj).1))); obtain ⟨g', cap', n', rfl, -⟩ := hO3.asSlice; clear hO3 hg HO HO2 HN2))
        | fail)
      go_roundw
      case rel => exact ⟨k + 1, by omega, by congr 1, by rw [takeN_snoc HE.out]; exact HX.out.1, HX.out.2⟩
      case measure => simp [intOf]; omega
    · have hkk : k = es.length := by omega
      subst hkk
      rw [List.take_length] at HN
      clear HB
      go_wp2_with fail
      go_ret
      exact ⟨_, rfl, HN.out, HBB.out⟩
end Go.Proofs.YtpkkmfppdhjpkaaGreat
