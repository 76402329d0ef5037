/- The law MarketPlays: for every list of commands, and every symbol, what a market is told of each command, and behind it all orders, and what was turned over, are as the document's market says; a clone goes its own way; no market, no symbol: ErrArg alone, nothing, nil; the law returns true. No condition. -/
import Derived.Test.YtdgllpfccdbdnaaKApplyG
import Derived.Laws.StructEq
import Derived.Test.YtdgllpfccdbdnaaKRapG
import Derived.Deep.CutRange
import Derived.Lib.SmallJoins
import Derived.Carry
import Derived.Handed
import Derived.OpenShut
import Derived.Deep.Slices
import Derived.Deep.Fields
import Derived.ChangeSame
import Derived.ChangeSlices
/- The live question: its answer is fixed. -/
namespace Go.Proofs.Ytdgllpfccdbdnaa
set_option linter.unusedVariables false
set_option linter.unusedSimpArgs false
open Go.RowKit
open Go.Lib (hid)

theorem ok0 : ∀ i, i < 4 → PlOk ((fun _ => Pl.none : Nat → Pl) i) := fun i _ => ⟨FineB.nil, by simp [Pl.none], by simp [Pl.none]⟩
def c1 : C7 := ⟨16, 0, 2, 0, 1, 7, 4⟩
def c2 : C7 := ⟨17, 0, 2, 0, 0, 9, 3⟩
theorem does1 : doesF c1 [] [] = (0, [], 4, [], [⟨16, 1, 7, 4⟩]) := by
  simp [doesF, c1, placeF, refE, mayB, sideB, withinB, wOk, fillG, withoutG, insG]
theorem does2 : doesF c2 [] [⟨16, 1, 7, 4⟩] = (0, [⟨16, 7, 3⟩], 0, [], [⟨16, 1, 7, 1⟩]) := by
  simp [doesF, c2, placeF, refE, mayB, sideB, withinB, wOk, isI, fillG, meetsB, withoutG, insG, show min (3 : Int) 4 = 3 from by decide]
def P1 : Nat → Pl := upd (fun _ => Pl.none) 2 ⟨[], [⟨16, 1, 7, 4⟩], 0, 0⟩
def P2 : Nat → Pl := upd P1 2 ⟨[], [⟨16, 1, 7, 1⟩], 3, 21⟩
theorem apply1 : applyF c1 (fun _ => Pl.none) = (0, [], 4, P1) := by
  have h : c1.ok = true := by decide
  unfold applyF
  rw [if_neg (by rw [h]; decide)]
  show (if overB (0 + volF (doesF c1 [] []).2.1) (0 + valF (doesF c1 [] []).2.1) = true then _ else ((doesF c1 [] []).1, (doesF c1 [] []).2.1, (doesF c1 [] []).2.2.1, upd (fun _ => Pl.none) 2 (stepF Pl.none (doesF c1 [] [])))) = _
  rw [does1]
  rw [if_neg (by decide)]
  rfl
theorem apply2 : applyF c2 P1 = (0, [⟨16, 7, 3⟩], 0, P2) := by
  have h : c2.ok = true := by decide
  have e : P1 2 = ⟨[], [⟨16, 1, 7, 4⟩], 0, 0⟩ := upd_at _ _ _
  unfold applyF
  rw [if_neg (by rw [h]; decide)]
  have e2 : c2.s.toNat = 2 := rfl
  rw [e2, e]
  simp only
  rw [does2]
  rw [if_neg (by decide)]
  rfl

set_option maxHeartbeats 6400000 in
set_option maxRecDepth 100000 in
theorem cAlive (w : World) : Calls Try.prog 5 #[] w fun e w' => e = .returned (.bool true) ∧ Below w.heap.size w w' := by
  go_enter Try.func5, Try.ntmps5
  go_wp2_with fail
  go_at_call 6
  refine (cMNew w).mono ?_
  rintro e w1 ⟨rfl, ⟨q1, hK1⟩, hB1⟩
  obtain ⟨m, hm⟩ : ∃ m, m = w.heap.size := ⟨_, rfl⟩
  rw [← hm] at hK1 hB1 ⊢
  have HB1 := hid hB1
  have HK1 := hid hK1
  have HE := hid hm
  clear hK1 hB1 hm
  go_wp2_with fail
  go_at_call 8
  have h1 := cApply HK1.out ok0 c1
  rw [apply1] at h1
  refine h1.mono ?_
  rintro e w2 ⟨hok2, f2, q2, rfl, hf2, hK2, hT2⟩
  have HB2 : Hid (Below m w w2) := hid (HB1.out.trans (hT2.below (fun k hk => by omega) (by have := HB1.out.size; have := HE.out; omega)))
  have HK2 := hid hK2
  have HOK2 := hid hok2
  clear hT2 hK2 hok2 hf2 h1
  go_wp2_with fail
  go_at_call 8
  have h2 := cApply HK2.out HOK2.out c2
  rw [apply2] at h2
  refine h2.mono ?_
  rintro e w3 ⟨hok3, f3, q3, rfl, hf3, hK3, hT3⟩
  have HB3 : Hid (Below m w w3) := hid (HB2.out.trans (hT3.below (fun k hk => by omega) (by have := HB2.out.size; have := HE.out; omega)))
  obtain ⟨fa, fc, fn, rfl, hfn⟩ := hf3.asSlice
  have HK3 := hid hK3
  have HOK3 := hid hok3
  have HF3 := hid hf3
  clear hT3 hK3 hok3 hf3 h2 hfn
  go_wp2_with fail
  go_at_call 13
  generalize hW4 : w3.alloc _ = W4
  have hB4 : Below w3.heap.size w3 W4 := by rw [← hW4]; exact (Below.refl _ w3).alloc (Nat.le_refl _) _
  have b4 : W4.heap[w3.heap.size]? = some (.cells #[.int .i64 0, .slice fa fn fc, .int .i64 0] 37 (0, 0)) := by rw [← hW4]; exact heap_alloc_new w3 _
  have HB4 := hid hB4
  have Hb4 := hid b4
  have hT := cTurnover (HK3.out.on hB4) 2 (by omega) (HOK3.out 2 (by omega))
  have e2 : P2 2 = ⟨[], [⟨16, 1, 7, 1⟩], 3, 21⟩ := upd_at _ _ _
  rw [e2] at hT
  clear hB4 b4 hW4
  refine hT.mono ?_
  rintro e w5 ⟨rfl, hB5⟩
  have HB5 := hid (HB4.out.trans (hB5.mono HB4.out.size))
  have Hb5 := hid (obOn Hb4.out hB5 (Array.getElem?_eq_some_iff.1 Hb4.out).1)
  clear hB5 hT
  go_wp2_with fail
  go_at_call 14
  have hA := cAverage (HK3.out.on HB5.out) 2 (by omega) (HOK3.out 2 (by omega))
  rw [e2] at hA
  refine hA.mono ?_
  rintro e w6 ⟨rfl, hB6⟩
  have HB6 := hid (HB5.out.trans (hB6.mono HB5.out.size))
  have hb6 := obOn Hb5.out hB6 (Array.getElem?_eq_some_iff.1 Hb5.out).1
  have k0 := cellAt' hb6 0
  have k1 := cellAt' hb6 1
  have k2 := cellAt' hb6 2
  simp at k0 k1 k2
  have ha1 : (avgF 3 21).1 = 7 := by decide
  have ha2 : (avgF 3 21).2 = 0 := by decide
  simp only [ha1, ha2]
  clear hB6 hb6 hA e2
  go_wp2_with fail
  go_at_call 9
  generalize hW7 : w6.alloc _ = W7
  have hB7 : Below w6.heap.size w6 W7 := by rw [← hW7]; exact (Below.refl _ w6).alloc (Nat.le_refl _) _
  have hfr : OwnF W7 w6.heap.size (.slice (some ⟨w6.heap.size, 0, none⟩) 1 1) [⟨16, 7, 3⟩] := by
    rw [← hW7]
    exact ⟨rfl, .inr ⟨w6.heap.size, 1, #[.int .i64 16, .int .i64 7, .int .i64 3], rfl, Nat.le_refl _, heap_alloc_new w6 _, Nat.le_refl _, by unfold maxLen; omega, rfl, rfl⟩⟩
  have hfl : OwnF W7 w2.heap.size (.slice fa fn fc) [⟨16, 7, 3⟩] := ((HF3.out.on HB6.out)).on hB7
  refine (rSame hfl hfr (by simp) 0 0).mono ?_
  rintro e w8 ⟨rfl, hB8⟩
  have HB8 : Hid (Below w.heap.size w w8) := hid (by
    have he := HE.out
    have s3 := HB3.out.size
    have h6 := HB3.out.trans (HB6.out.mono (by omega))
    have s6 := h6.size
    have s7 := hB7.size
    have h7 := (h6.trans (hB7.mono (by omega))).trans (hB8.mono (by omega))
    rw [he] at h7
    exact h7)
  clear hB7 hB8 hfr hfl hW7
  go_wp2_with fail
  go_ret
  exact ⟨rfl, HB8.out⟩
end Go.Proofs.Ytdgllpfccdbdnaa
/- Two markets side by side; commands that came in; orders that are the same. -/
namespace Go.Proofs.Ytdgllpfccdbdnaa
set_option linter.unusedVariables false
set_option linter.unusedSimpArgs false
open Go.RowKit
open Go.Lib (hid)

/-- What a command tells of its symbol, and leaves there, hangs on that place alone. -/
theorem apply_at {c : C7} {P Q : Nat → Pl} {s : Nat} (h : P s = Q s) (hs : c.s = s) : (applyF c P).1 = (applyF c Q).1 ∧ (applyF c P).2.1 = (applyF c Q).2.1 ∧ (applyF c P).2.2.1 = (applyF c Q).2.2.1 ∧ (applyF c P).2.2.2 s = (applyF c Q).2.2.2 s := by
  have e : c.s.toNat = s := by omega
  unfold applyF
  rw [e, h]
  split
  · exact ⟨rfl, rfl, rfl, h⟩
  · split
    · exact ⟨rfl, rfl, rfl, h⟩
    · exact ⟨rfl, rfl, rfl, by simp only [upd_at]⟩
theorem apply_off {c : C7} {P : Nat → Pl} {s : Nat} (hs : c.s ≠ s) : (applyF c P).2.2.2 s = P s := by
  unfold applyF
  split
  · rfl
  · rename_i hc
    have hok : c.ok = true := by simpa using hc
    have := ok_sym hok
    split
    · rfl
    · exact upd_off _ _ (by omega)
theorem apply_len (c : C7) {P : Nat → Pl} (h : ∀ i, i < 4 → PlOk (P i)) : (applyF c P).2.1.length ≤ 8 := by
  unfold applyF
  split
  · simp
  · rename_i hc
    have hok : c.ok = true := by simpa using hc
    have := ok_sym hok
    split
    · simp
    · exact (does_ok c (h c.s.toNat (by omega)).1).2
theorem Mk.tch {w w' : World} {m m2 : Nat} {q : Nat → Nat} {P : Nat → Pl} {cs : Array Value} (h : Mk w m q P) (hm : w.heap[m2]? = some (.cells cs 62 (0, 0))) (ht : Tch (fun k => k = m2) w w') (hne : m ≠ m2) : Mk w' m q P :=
  ⟨ht.ob h.ob hne, fun i hi => (h.at' i hi).tch hm ht⟩
structure TwoM (w wr : World) (ma mb : Nat) (PA PB : Nat → Pl) : Prop where
  a : ∃ q, Mk wr ma q PA
  b : ∃ q, Mk wr mb q PB
  oa : ∀ i, i < 4 → PlOk (PA i)
  ob : ∀ i, i < 4 → PlOk (PB i)
  be : Below w.heap.size w wr
  ha : w.heap.size ≤ ma
  hb : w.heap.size ≤ mb
  ne : ma ≠ mb
theorem TwoM.on {w wr w' : World} {ma mb : Nat} {PA PB : Nat → Pl} (h : TwoM w wr ma mb PA PB) (hb : Below wr.heap.size wr w') : TwoM w w' ma mb PA PB := by
  obtain ⟨qa, ha⟩ := h.a
  obtain ⟨qb, hb2⟩ := h.b
  exact ⟨⟨qa, ha.on hb⟩, ⟨qb, hb2.on hb⟩, h.oa, h.ob, h.be.trans (hb.mono h.be.size), h.ha, h.hb, h.ne⟩
theorem TwoM.left {w wr w' : World} {ma mb : Nat} {PA PB : Nat → Pl} {e : Ending} {r : Int × List Fl × Int × (Nat → Pl)} (h : TwoM w wr ma mb PA PB) (hA : Appl wr w' ma e r) : TwoM w w' ma mb r.2.2.2 PB := by
  obtain ⟨qa, ha⟩ := h.a
  obtain ⟨qb, hb⟩ := h.b
  obtain ⟨hok, f, q', rfl, hf, hK, hT⟩ := hA
  exact ⟨⟨q', hK⟩, ⟨qb, hb.tch ha.ob hT (fun e => h.ne e.symm)⟩, hok, h.ob, h.be.trans (hT.below (fun k hk => by have := h.ha; omega) h.be.size), h.ha, h.hb, h.ne⟩
theorem TwoM.right {w wr w' : World} {ma mb : Nat} {PA PB : Nat → Pl} {e : Ending} {r : Int × List Fl × Int × (Nat → Pl)} (h : TwoM w wr ma mb PA PB) (hA : Appl wr w' mb e r) : TwoM w w' ma mb PA r.2.2.2 := by
  obtain ⟨qa, ha⟩ := h.a
  obtain ⟨qb, hb⟩ := h.b
  obtain ⟨hok, f, q', rfl, hf, hK, hT⟩ := hA
  exact ⟨⟨qa, ha.tch hb.ob hT h.ne⟩, ⟨q', hK⟩, h.oa, hok, h.be.trans (hT.below (fun k hk => by have := h.hb; omega) h.be.size), h.ha, h.hb, h.ne⟩

/-- Commands that came in. -/
def Sl (w : World) (v : Value) (cs : List C7) : Prop :=
  ∃ (b o cap : Nat) (a : Option Addr), v = .slice a cs.length cap ∧ (a = none → cap = 0) ∧ (0 < cs.length → a = some ⟨b, o, none⟩) ∧ CmsAt w b o cs ∧ (0 < cs.length → b < w.heap.size)
theorem Sl.shape {w : World} {v : Value} {cs : List C7} (h : Sl w v cs) : ∃ a n cap, v = .slice a n cap ∧ n = cs.length ∧ ∀ (j : Nat) c, cs[j]? = some c → ∃ b o, a = some ⟨b, o, none⟩ ∧ b < w.heap.size ∧
    w.cell? ⟨b, o + j * 7, none⟩ = some (.int .i64 c.i) ∧ w.cell? ⟨b, o + j * 7 + 1, none⟩ = some (.int .i64 c.k) ∧ w.cell? ⟨b, o + j * 7 + 2, none⟩ = some (.int .i64 c.s) ∧ w.cell? ⟨b, o + j * 7 + 3, none⟩ = some (.int .i64 c.t) ∧ w.cell? ⟨b, o + j * 7 + 4, none⟩ = some (.int .i64 c.d) ∧ w.cell? ⟨b, o + j * 7 + 5, none⟩ = some (.int .i64 c.p) ∧ w.cell? ⟨b, o + j * 7 + 6, none⟩ = some (.int .i64 c.q) := by
  obtain ⟨b, o, cap, a, rfl, _, ha, hc, hb⟩ := h
  refine ⟨a, _, cap, rfl, rfl, fun j x hx => ?_⟩
  have h0 : 0 < cs.length := by have := (List.getElem?_eq_some_iff.1 hx).1; omega
  exact ⟨b, o, ha h0, hb h0, hc j x hx 0 _ rfl, hc j x hx 1 _ rfl, hc j x hx 2 _ rfl, hc j x hx 3 _ rfl, hc j x hx 4 _ rfl, hc j x hx 5 _ rfl, hc j x hx 6 _ rfl⟩

theorem equalO (a : Od) (w : World) : Sem.run Try.prog (Op.equalIn 10000 52 a.v a.v) w = .ok true w := by
  have u3 := Try.underlying3
  have a3 := Try.isAgg3
  have z3 := Try.sizeOf3
  have u4 := Try.underlying40
  have a4 := Try.isAgg40
  have z4 := Try.sizeOf40
  have hS : Try.prog.underlying 52 = some (.struct (Try.prog.fieldsOf 52)) := by kernel_rfl
  have hp : Try.prog.stoodInHeld 52 = false := by kernel_rfl
  simp only [Od.v]
  rw [show (10000 : Nat) = 9999 + 1 from rfl, run_equalIn_agg w 9999 52 _ _ hS hp]
  simp only [Program.fieldsOf, Try.underlying52]
  go_simp
theorem neqO (a : Od) (w : World) : Sem.run Try.prog (binOp .neq 52 a.v a.v) w = .ok (.bool false) w := by
  rw [Od.v, run_neq_struct]
  have := equalO a w
  rw [Od.v] at this
  rw [this]; rfl
theorem guardO (op : BinOp) (x y : Operand) (a b : Od) (w : World) : Sem.run Try.prog (eqGuard op 52 x y a.v b.v) w = .ok () w := run_eqGuard_agg w op 52 x y _ _ (by kernel_rfl)
/-- A row of the program's orders, its words. -/
theorem OwnO.at {w : World} {B : Nat} {v : Value} {l : List Od} (h : OwnO w B v l) : ∃ a n c, v = .slice a n c ∧ n = l.length ∧ ∀ (j : Nat) o, l[j]? = some o → ∃ g, a = some ⟨g, 0, none⟩ ∧ g < w.heap.size ∧ w.cell? ⟨g, j * 4, none⟩ = some (.int .i64 o.i) ∧ w.cell? ⟨g, j * 4 + 1, none⟩ = some (.int .i64 o.s) ∧ w.cell? ⟨g, j * 4 + 2, none⟩ = some (.int .i64 o.p) ∧ w.cell? ⟨g, j * 4 + 3, none⟩ = some (.int .i64 o.n) := by
  rcases h.shape with ⟨rfl, rfl⟩ | ⟨g, cap, rfl, _, _, _, hg, hc, _⟩
  · exact ⟨none, 0, 0, rfl, rfl, fun j o hj => by simp at hj⟩
  · exact ⟨_, _, cap, rfl, rfl, fun j o hj => ⟨g, rfl, hg, hc j o hj⟩⟩
end Go.Proofs.Ytdgllpfccdbdnaa
/- The document's market: Average, Known; orders that are the same, the program's and the document's. -/
namespace Go.Proofs.Ytdgllpfccdbdnaa
set_option linter.unusedVariables false
set_option linter.unusedSimpArgs false
open Go.RowKit
open Go.Lib (hid)

theorem equalR (a : Od) (w : World) : Sem.run Try.prog (Op.equalIn 10000 71 a.v a.v) w = .ok true w := by
  have u3 := Try.underlying3
  have a3 := Try.isAgg3
  have z3 := Try.sizeOf3
  have hS : Try.prog.underlying 71 = some (.struct (Try.prog.fieldsOf 71)) := by kernel_rfl
  have hp : Try.prog.stoodInHeld 71 = false := by kernel_rfl
  simp only [Od.v]
  rw [show (10000 : Nat) = 9999 + 1 from rfl, run_equalIn_agg w 9999 71 _ _ hS hp]
  simp only [Program.fieldsOf, Try.underlying71]
  go_simp
theorem neqR (a : Od) (w : World) : Sem.run Try.prog (binOp .neq 71 a.v a.v) w = .ok (.bool false) w := by
  rw [Od.v, run_neq_struct]
  have := equalR a w
  rw [Od.v] at this
  rw [this]; rfl
theorem guardR (op : BinOp) (x y : Operand) (a b : Od) (w : World) : Sem.run Try.prog (eqGuard op 71 x y a.v b.v) w = .ok () w := run_eqGuard_agg w op 71 x y _ _ (by kernel_rfl)

theorem rKnown (s : Int) (w : World) : Calls Try.prog 12 #[.int .i64 s] w fun e w' => e = .returned (.bool (decide (0 ≤ s ∧ s ≤ 3))) ∧ w = w' := by
  by_cases h0 : 0 ≤ s
  · by_cases h3 : s ≤ 3
    · have hd : decide (0 ≤ s ∧ s ≤ 3) = true := decide_eq_true ⟨h0, h3⟩
      rw [hd]
      go_enter Try.func12, Try.ntmps12
      go_wp2
      go_ret
      exact ⟨ret_bool (by first | rfl | simp [h0, h3]), rfl⟩
    · have hd : decide (0 ≤ s ∧ s ≤ 3) = false := decide_eq_false fun h => h3 h.2
      rw [hd]
      go_enter Try.func12, Try.ntmps12
      go_wp2
      go_ret
      exact ⟨ret_bool (by first | rfl | simp [h0, h3]), rfl⟩
  · have hd : decide (0 ≤ s ∧ s ≤ 3) = false := decide_eq_false fun h => h0 h.1
    rw [hd]
    go_enter Try.func12, Try.ntmps12
    go_wp2
    go_ret
    exact ⟨ret_bool (by first | rfl | simp [h0]), rfl⟩

set_option maxHeartbeats 3200000 in
set_option maxRecDepth 100000 in
theorem rAverage {w : World} {x : Nat} {v : Nat → Value} {L : Nat → List Od} {P : Nat → Pl} (h : RM w x v L P) (s : Nat) (hs : s < 4) (hP : PlOk (P s)) : Calls Try.prog 27 #[ptr x, .int .i64 s] w fun e w' => e = .returned (twoV (avgF (P s).vol (P s).val).1 (avgF (P s).vol (P s).val).2) ∧ Below w.heap.size w w' := by
  obtain ⟨hx, _, g1, g2, _⟩ := h.cells hs
  obtain ⟨a, ha⟩ : ∃ a, a = (P s).vol := ⟨_, rfl⟩
  obtain ⟨b, hb⟩ : ∃ b, b = (P s).val := ⟨_, rfl⟩
  rw [← ha] at g1
  rw [← hb] at g2
  rw [← ha, ← hb]
  have h1 := hP.2.1
  have h2 := hP.2.2
  rw [← ha] at h1
  rw [← hb] at h2
  have hsz : (s : Int) < 4 := by omega
  have hsn : (0 : Int) ≤ (s : Int) := by omega
  clear h hP ha hb hs
  by_cases h0 : a = 0
  · subst h0
    go_enter Try.func27, Try.ntmps27
    go_wp2_with fail
    refine bodyPost_ret (v := twoV 0 0) (by simp [results, Try.results27, go_sem]) rfl ⟨rfl, ?_⟩
    exact Below.refl _ _
  · have hz : ¬ (a : Int) = 0 := by omega
    have hd0 : 0 ≤ (b : Int) / (a : Int) := Int.ediv_nonneg (by omega) (by omega)
    have hd1 : (b : Int) / (a : Int) ≤ b := Int.ediv_le_self _ (by omega)
    have HWR : Hid (wrap64 ((b : Int) / (a : Int)) = (b : Int) / (a : Int)) := hid (by generalize (b : Int) / (a : Int) = y at hd0 hd1 ⊢; unfold wrap64; omega)
    clear hd0 hd1
    go_enter Try.func27, Try.ntmps27
    go_wp2_with fail
    go_quiet (fail)
    all_goals (
      go_wp2_with fail
      refine bodyPost_ret (v := twoV (avgF a b).1 (avgF a b).2) (by simp [results, Try.results27, go_sem, avgF, h0, HWR.out]) rfl ⟨rfl, ?_⟩
      exact belowDrewN (Below.refl _ _) _)
end Go.Proofs.Ytdgllpfccdbdnaa
/- The law's Same: a market of the program's, and the document's, that hold the same. -/
namespace Go.Proofs.Ytdgllpfccdbdnaa
set_option linter.unusedVariables false
set_option linter.unusedSimpArgs false
open Go.RowKit
open Go.Lib (hid)

set_option maxHeartbeats 12800000 in
set_option maxRecDepth 100000 in
theorem rSameM {w : World} {m x : Nat} {q : Nat → Nat} {v : Nat → Value} {L : Nat → List Od} {P : Nat → Pl} (hK : Mk w m q P) (hM : RM w x v L P) (hok : ∀ i, i < 4 → PlOk (P i)) : Calls Try.prog 11 #[ptr m, ptr x] w fun e w' => e = .returned (.bool true) ∧ Below w.heap.size w w' := by
  have HK := hid hK
  have HM := hid hM
  have HOK := hid hok
  clear hK hM hok
  go_enter Try.func11, Try.ntmps11
  go_wp2_with fail
  go_loopg [5, 6, 7, 8, 9, 10, 11, 12, 13, 14, 15] 4 (fun gg s5 s6 s7 s8 s9 s10 s11 s12 s13 s14 s15 wr => ∃ s : Nat, s ≤ 4 ∧ 4 - s ≤ gg ∧ s5 = .int .i64 s ∧ Hid (Below w.heap.size w wr))
  case atStart => exact ⟨0, by omega, by omega, rfl, hid (Below.refl _ _)⟩
  case round =>
    obtain ⟨s, hs, hgg, rfl, HB⟩ := hrel
    by_cases hlt : s < 4
    · have hltz : (s : Int) < 4 := by omega
      have hsn : (0 : Int) ≤ (s : Int) := by omega
      have HS := hid hlt
      have HPO := hid (HOK.out s hlt)
      have hT := fun W (hW : Below w.heap.size w W) => cTurnover (HK.out.on hW) s HS.out HPO.out
      have hAV := fun W (hW : Below w.heap.size w W) => cAverage (HK.out.on hW) s HS.out HPO.out
      have hRA := fun W (hW : Below w.heap.size w W) => rAverage (HM.out.on hW) s HS.out HPO.out
      have hC := fun W (hW : Below w.heap.size w W) => (HM.out.on hW).cells HS.out
      obtain ⟨vo, hvo⟩ : ∃ vo, vo = (P s).vol := ⟨_, rfl⟩
      obtain ⟨va, hva⟩ : ∃ va, va = (P s).val := ⟨_, rfl⟩
      rw [← hvo, ← hva] at hT hAV hRA hC
      obtain ⟨av, hav⟩ : ∃ av, av = avgF vo va := ⟨_, rfl⟩
      rw [← hav] at hAV hRA
      obtain ⟨a1, a2⟩ := av
      simp only at hAV hRA
      have HT := hid hT
      have HAV := hid hAV
      have HRA := hid hRA
      have HC := hid hC
      clear hT hAV hRA hC hvo hva hav
      go_wp2_with fail
      go_at_call 13
      refine (HT.out _ HB.out).mono ?_
      rintro e w1 ⟨rfl, hB1⟩
      have HB1 := hid (HB.out.trans (hB1.mono HB.out.size))
      clear hB1
      go_wp2_with fail
      go_at_call 14
      refine (HAV.out _ HB1.out).mono ?_
      rintro e w2 ⟨rfl, hB2⟩
      have HB2 := hid (HB1.out.trans (hB2.mono HB1.out.size))
      clear hB2
      go_wp2_with fail
      go_at_call 27
      refine (HRA.out _ HB2.out).mono ?_
      rintro e w3 ⟨rfl, hB3⟩
      have HB3 := hid (HB2.out.trans (hB3.mono HB2.out.size))
      obtain ⟨hx3, _, g1, g2, _⟩ := HC.out w3 HB3.out
      clear hB3
      go_wp2_with fail
      clear g1 g2 hx3
      go_loopg [12, 13, 14, 15] 2 (fun gg s12 s13 s14 s15 wr => ∃ d : Nat, d ≤ 2 ∧ 2 - d ≤ gg ∧ s12 = .int .i64 d ∧ Hid (Below w.heap.size w wr))
      case atStart => exact ⟨0, by omega, by omega, rfl, HB3⟩
      case round =>
        obtain ⟨d, hd, hg2, rfl, HB4⟩ := hrel
        clear HB HB1 HB2 HB3
        by_cases hd2 : d < 2
        · have hdz : (d : Int) < 2 := by omega
          obtain ⟨os, hos, hor, hro⟩ : ∃ os : List Od, os.length ≤ 8 ∧ (∀ W, Below w.heap.size w W → Calls Try.prog 15 #[ptr m, .int .i64 s, .int .i64 d] W fun e w' => ∃ r, e = .returned r ∧ OwnO w' W.heap.size r os ∧ Below W.heap.size W w') ∧
              (∀ W, Below w.heap.size w W → Calls Try.prog 28 #[.pointer (some ⟨x, s, none⟩), .int .i64 d] W fun e w' => ∃ r, e = .returned r ∧ OwnR w' W.heap.size r os ∧ Below W.heap.size W w') := by
            have hr := HM.out.rel s HS.out
            have hlen := hr.lens
            have h8 := hr.len
            have hr0 : ∀ d : Int, (d = 0 ∨ d = 1) → ∀ W, Below w.heap.size w W → Calls Try.prog 28 #[.pointer (some ⟨x, s, none⟩), .int .i64 d] W fun e w' => ∃ r, e = .returned r ∧ OwnR w' W.heap.size r (sideF d (L s)) ∧ Below W.heap.size W w' := fun d hd W hW =>
              rOrders ((HM.out.on hW).cells HS.out).2.1 ((HM.out.on hW).cells HS.out).1 ((HM.out.on hW).row s HS.out) h8 hr.un d hd
            obtain rfl | rfl : d = 0 ∨ d = 1 := by omega
            · refine ⟨(P s).bs, by omega, fun W hW => cMOrders0 (HK.out.on hW) s HS.out HPO.out, ?_⟩
              have := hr0 0 (.inl rfl)
              rw [hr.e0] at this
              exact this
            · refine ⟨(P s).ss, by omega, fun W hW => cMOrders1 (HK.out.on hW) s HS.out HPO.out, ?_⟩
              have := hr0 1 (.inr rfl)
              rw [hr.e1] at this
              exact this
          have HOR := hid hor
          have HRO := hid hro
          have HOS := hid hos
          have hx4 := (HC.out _ HB4.out).1
          clear hos hor hro
          go_wp2_with fail
          go_at_call 15
          refine (HOR.out _ HB4.out).mono ?_
          rintro e w5 ⟨r5, rfl, hO5, hB5⟩
          have HB5 := hid (HB4.out.trans (hB5.mono HB4.out.size))
          have HO5 := hid hO5
          obtain ⟨a5, c5, n5, rfl, hn5⟩ := hO5.asSlice
          have HN5 := hid hn5
          have hx5 := (HC.out _ HB5.out).1
          clear hO5 hB5 hn5 hx4
          go_wp2_with fail
          go_at_call 28
          refine (HRO.out _ HB5.out).mono ?_
          rintro e w6 ⟨r6, rfl, hO6, hB6⟩
          have HB6 := hid (HB5.out.trans (hB6.mono HB5.out.size))
          have HO6 := hid (OwnG.on HO5.out hB6)
          obtain ⟨a6, c6, n6, rfl, hn6⟩ := OwnG.asSlice hO6
          have hS2 := OwnR.at hO6
          have hS1 := OwnO.at HO6.out
          obtain rfl : n6 = n5 := by have := HN5.out; omega
          have hn8 : n6 ≤ 8 := by have := HN5.out; have := HOS.out; omega
          have HS1 : Hid (∀ (j : Nat) o, os[j]? = some o → ∃ g, a5 = some ⟨g, 0, none⟩ ∧ g < w6.heap.size ∧ w6.cell? ⟨g, j * 4, none⟩ = some (.int .i64 o.i) ∧ w6.cell? ⟨g, j * 4 + 1, none⟩ = some (.int .i64 o.s) ∧ w6.cell? ⟨g, j * 4 + 2, none⟩ = some (.int .i64 o.p) ∧ w6.cell? ⟨g, j * 4 + 3, none⟩ = some (.int .i64 o.n)) := hid (by
            obtain ⟨a, n, c, e, _, h⟩ := hS1
            injection e with e1 _ _
            rw [e1]; exact h)
          have HS2 : Hid (∀ (j : Nat) o, os[j]? = some o → ∃ g, a6 = some ⟨g, 0, none⟩ ∧ g < w6.heap.size ∧ w6.cell? ⟨g, j * 4, none⟩ = some (.int .i64 o.i) ∧ w6.cell? ⟨g, j * 4 + 1, none⟩ = some (.int .i64 o.s) ∧ w6.cell? ⟨g, j * 4 + 2, none⟩ = some (.int .i64 o.p) ∧ w6.cell? ⟨g, j * 4 + 3, none⟩ = some (.int .i64 o.n)) := hid (by
            obtain ⟨a, n, c, e, _, h⟩ := hS2
            injection e with e1 _ _
            rw [e1]; exact h)
          clear hO6 hB6 hn6 hx5 hS1 hS2
          go_wp2_with fail
          go_loopg [15] n6 (fun gg s15 wr => ∃ j k : Nat, j ≤ n6 ∧ n6 - j ≤ gg ∧ s15 = .int .i64 j ∧ wr = w6.drewN k)
          case atStart => exact ⟨0, 0, by omega, by omega, rfl, rfl⟩
          case round =>
            obtain ⟨j, k, hj, hg6, rfl, rfl⟩ := hrel
            by_cases hjl : j < n6
            · have hjz : (j : Int) < (n6 : Int) := by omega
              obtain ⟨y, hy⟩ : ∃ y, os[j]? = some y := ⟨os[j]'(by rw [← HN5.out]; exact hjl), List.getElem?_eq_getElem (by rw [← HN5.out]; exact hjl)⟩
              obtain ⟨g, rfl, hg, k0, k1, k2, k3⟩ := HS1.out j y hy
              obtain ⟨g', rfl, hg', m0, m1, m2, m3⟩ := HS2.out j y hy
              have hE := neqR y
              have hG := fun op p q W => guardR op p q y y W
              clear hy
              go_wp2_with fail
              go_quiet (fail)
              go_wp2_with fail
              go_roundg (n6 - (j + 1))
              case measure => omega
              case rel => exact ⟨j + 1, _, by omega, by omega, by go_num, rfl⟩
            · have hjz : ¬ (j : Int) < (n6 : Int) := by omega
              go_wp2_with fail
              go_roundg (2 - (d + 1))
              case measure => omega
              case rel => exact ⟨d + 1, by omega, by omega, by go_num, hid (belowDrewN HB6.out _)⟩
        · have hdz : ¬ (d : Int) < 2 := by omega
          go_wp2_with fail
          go_roundg (4 - (s + 1))
          case measure => omega
          case rel => exact ⟨s + 1, by omega, by omega, by go_num, HB4⟩
    · have hltz : ¬ (s : Int) < 4 := by omega
      go_wp2_with fail
      go_ret
      exact ⟨rfl, HB.out⟩
end Go.Proofs.Ytdgllpfccdbdnaa
/- A market, the document's, a clone, side by side. -/
namespace Go.Proofs.Ytdgllpfccdbdnaa
set_option linter.unusedVariables false
set_option linter.unusedSimpArgs false
open Go.RowKit
open Go.Lib (hid)

theorem Mk.tchT {w w' : World} {m N : Nat} {q : Nat → Nat} {P : Nat → Pl} {cs : Array Value} {T : TypeId} (h : Mk w m q P) (hN : w.heap[N]? = some (.cells cs T (0, 0))) (h1 : T ≠ 81) (h2 : T ≠ 52) (ht : Tch (fun k => k = N) w w') (hne : m ≠ N) : Mk w' m q P :=
  ⟨ht.ob h.ob hne, fun i hi => by
    obtain ⟨va, vb, hb⟩ := h.at' i hi
    exact ⟨va, vb, hb.tch ht fun k hk e => by subst e; exact hb.offT hN h1 h2 hk⟩⟩
theorem RM.tchT {w w' : World} {x N : Nat} {v : Nat → Value} {L : Nat → List Od} {P : Nat → Pl} {cs : Array Value} {T : TypeId} (h : RM w x v L P) (hN : w.heap[N]? = some (.cells cs T (0, 0))) (h1 : T ≠ 71) (ht : Tch (fun k => k = N) w w') (hne : x ≠ N) : RM w' x v L P :=
  ⟨ht.ob h.ob hne, fun i hi => OwnG.tch (h.row i hi) ht fun k hk e => own_offT (h.row i hi) hN h1 (by rw [hk, e]), h.rel⟩
structure Pv (w W : World) (m x : Nat) (PM PX : Nat → Pl) : Prop where
  pm : ∃ q, Mk W m q PM
  px : ∃ v L, RM W x v L PX
  om : ∀ i, i < 4 → PlOk (PM i)
  ox : ∀ i, i < 4 → PlOk (PX i)
  be : Below w.heap.size w W
  hm : w.heap.size ≤ m
  hx : w.heap.size ≤ x
theorem Pv.on {w W W' : World} {m x : Nat} {PM PX : Nat → Pl} (h : Pv w W m x PM PX) (hb : Below W.heap.size W W') : Pv w W' m x PM PX := by
  obtain ⟨q, hm⟩ := h.pm
  obtain ⟨v, L, hx⟩ := h.px
  exact ⟨⟨q, hm.on hb⟩, ⟨v, L, hx.on hb⟩, h.om, h.ox, h.be.trans (hb.mono h.be.size), h.hm, h.hx⟩
theorem Pv.ne {w W : World} {m x : Nat} {PM PX : Nat → Pl} (h : Pv w W m x PM PX) : m ≠ x ∧ m < W.heap.size ∧ x < W.heap.size := by
  obtain ⟨q, hm⟩ := h.pm
  obtain ⟨v, L, hx⟩ := h.px
  exact ⟨ob_ne hm.ob hx.ob (by decide), (Array.getElem?_eq_some_iff.1 hm.ob).1, (Array.getElem?_eq_some_iff.1 hx.ob).1⟩
theorem Pv.actM {w W W' : World} {m x : Nat} {PM PX : Nat → Pl} {e : Ending} {r : Int × List Fl × Int × (Nat → Pl)} (h : Pv w W m x PM PX) (hA : Appl W W' m e r) : Pv w W' m x r.2.2.2 PX := by
  obtain ⟨q, hm⟩ := h.pm
  obtain ⟨v, L, hx⟩ := h.px
  obtain ⟨hok, f, q', rfl, hf, hK, hT⟩ := hA
  exact ⟨⟨q', hK⟩, ⟨v, L, hx.tchT hm.ob (by decide) hT (fun e => h.ne.1 e.symm)⟩, hok, h.ox, h.be.trans (hT.below (fun k hk => by have := h.hm; omega) h.be.size), h.hm, h.hx⟩
theorem Pv.actX {w W W' : World} {m x : Nat} {PM PX : Nat → Pl} {e : Ending} {r : Int × List Fl × Int × (Nat → Pl)} (h : Pv w W m x PM PX) (hA : RAppl W W' x e r) (hok : ∀ i, i < 4 → PlOk (r.2.2.2 i)) : Pv w W' m x PM r.2.2.2 := by
  obtain ⟨q, hm⟩ := h.pm
  obtain ⟨v, L, hx⟩ := h.px
  obtain ⟨f, v', L', rfl, hf, hK, hT⟩ := hA
  exact ⟨⟨q, hm.tchT hx.ob (by decide) (by decide) hT h.ne.1⟩, ⟨v', L', hK⟩, h.om, hok, h.be.trans (hT.below (fun k hk => by have := h.hx; omega) h.be.size), h.hm, h.hx⟩
/-- Another market's block turned. -/
theorem Pv.other {w W W' : World} {m x c : Nat} {q : Nat → Nat} {PM PX PC : Nat → Pl} (h : Pv w W m x PM PX) (hc : Mk W c q PC) (hT : Tch (fun k => k = c) W W') (hne : m ≠ c) (hcw : w.heap.size ≤ c) : Pv w W' m x PM PX := by
  obtain ⟨qm, hm⟩ := h.pm
  obtain ⟨v, L, hx⟩ := h.px
  exact ⟨⟨qm, hm.tchT hc.ob (by decide) (by decide) hT hne⟩, ⟨v, L, hx.tchT hc.ob (by decide) hT (fun e => ob_ne hc.ob hx.ob (by decide) e.symm)⟩, h.om, h.ox, h.be.trans (hT.below (fun k hk => by omega) h.be.size), h.hm, h.hx⟩
/-- The clone. -/
structure Cn (w W : World) (m c : Nat) (PC : Nat → Pl) : Prop where
  pc : ∃ q, Mk W c q PC
  ok : ∀ i, i < 4 → PlOk (PC i)
  hc : w.heap.size ≤ c
  ne : m ≠ c
theorem Cn.on {w W W' : World} {m c : Nat} {PC : Nat → Pl} (h : Cn w W m c PC) (hb : Below W.heap.size W W') : Cn w W' m c PC := by
  obtain ⟨q, hc⟩ := h.pc
  exact ⟨⟨q, hc.on hb⟩, h.ok, h.hc, h.ne⟩
theorem Cn.tch {w W W' : World} {m c N : Nat} {PC : Nat → Pl} {cs : Array Value} {T : TypeId} (h : Cn w W m c PC) (hN : W.heap[N]? = some (.cells cs T (0, 0))) (h1 : T ≠ 81) (h2 : T ≠ 52) (ht : Tch (fun k => k = N) W W') (hne : c ≠ N) : Cn w W' m c PC := by
  obtain ⟨q, hc⟩ := h.pc
  exact ⟨⟨q, hc.tchT hN h1 h2 ht hne⟩, h.ok, h.hc, h.ne⟩
/-- The reply that was told. -/
structure Rb (W : World) (N : Nat) (err : Int) (fa : Option Addr) (fn fc : Nat) (left : Int) (fs : List Fl) : Prop where
  n : W.heap[N]? = some (.cells #[.int .i64 err, .slice fa fn fc, .int .i64 left] 37 (0, 0))
  fl : OwnF W 0 (.slice fa fn fc) fs
theorem Rb.on {W W' : World} {N : Nat} {err left : Int} {fa : Option Addr} {fn fc : Nat} {fs : List Fl} (h : Rb W N err fa fn fc left fs) (hb : Below W.heap.size W W') : Rb W' N err fa fn fc left fs :=
  ⟨obOn h.n hb (Array.getElem?_eq_some_iff.1 h.n).1, OwnG.on h.fl hb⟩
theorem Rb.tch {W W' : World} {N M : Nat} {err left : Int} {fa : Option Addr} {fn fc : Nat} {fs : List Fl} {cs : Array Value} {T : TypeId} (h : Rb W N err fa fn fc left fs) (hM : W.heap[M]? = some (.cells cs T (0, 0))) (h1 : 37 ≠ T) (h2 : T ≠ 55) (ht : Tch (fun k => k = M) W W') : Rb W' N err fa fn fc left fs :=
  ⟨ht.ob h.n (ob_ne h.n hM h1), OwnG.tch h.fl ht fun k hk e => OwnF.offT h.fl hM h2 (by rw [hk, e])⟩
theorem Rb.cells {W : World} {N : Nat} {err left : Int} {fa : Option Addr} {fn fc : Nat} {fs : List Fl} (h : Rb W N err fa fn fc left fs) : W.cell? ⟨N, 0, none⟩ = some (.int .i64 err) ∧ W.cell? ⟨N, 1, none⟩ = some (.slice fa fn fc) ∧ W.cell? ⟨N, 2, none⟩ = some (.int .i64 left) ∧ N < W.heap.size := by
  have h0 := h.n
  exact ⟨by rw [cellAt' h0]; rfl, by rw [cellAt' h0]; rfl, by rw [cellAt' h0]; rfl, (Array.getElem?_eq_some_iff.1 h0).1⟩
/-- A new market, and the document's. -/
theorem Pv.start {w w1 : World} {q : Nat → Nat} (h : Mk w1 w.heap.size q fun _ => Pl.none) (hb : Below w.heap.size w w1) : Pv w (w1.alloc (RMO (fun _ => .slice none 0 0) fun _ => Pl.none)) w.heap.size w1.heap.size (fun _ => Pl.none) (fun _ => Pl.none) := by
  have hal : Below w1.heap.size w1 (w1.alloc (RMO (fun _ => .slice none 0 0) fun _ => Pl.none)) := (Below.refl _ w1).alloc (Nat.le_refl _) _
  exact ⟨⟨q, h.on hal⟩, ⟨_, fun _ => [], heap_alloc_new w1 _, fun i hi => World.ownsRow_nil _ _ _ _, fun i hi => Rel.nil⟩, ok0, ok0, hb.trans (hal.mono hb.size), Nat.le_refl _, hb.size⟩
end Go.Proofs.Ytdgllpfccdbdnaa
/- The walk of the law MarketPlays. -/
namespace Go.Proofs.Ytdgllpfccdbdnaa
set_option linter.unusedVariables false
set_option linter.unusedSimpArgs false
open Go.RowKit
open Go.Lib (hid)

/-- The reply's box. -/
abbrev rpB (err : Int) (a : Option Addr) (n c : Nat) (left : Int) : Obj := .cells #[.int .i64 err, .slice a n c, .int .i64 left] 37 (0, 0)
set_option maxRecDepth 100000 in
theorem cMClone_nil (w : World) : Calls Try.prog 7 #[.pointer none] w fun e w' => e = .returned (.pointer none) ∧ Below w.heap.size w w' := by
  go_enter Try.func7, Try.ntmps7
  go_wp2
  go_ret
  exact ⟨rfl, Below.refl _ _⟩

set_option maxHeartbeats 25600000 in
set_option maxRecDepth 100000 in
theorem wPlays {w : World} {v : Value} {cs : List C7} (h : Sl w v cs) (z : Int) : Calls Try.prog 3 #[v, .int .i64 z] w fun e w' => e = .returned (.bool true) ∧ Below w.heap.size w w' := by
  obtain ⟨a, n, cap, rfl, hn, hx⟩ := h.shape
  have HN := hid hn
  have HX := hid hx
  clear h hn hx
  by_cases h80 : 80 < n
  · go_enter Try.func3, Try.ntmps3
    go_wp2_with fail
    go_at_call 5
    refine (cAlive _).mono ?_
    rintro e w1 ⟨rfl, hB1⟩
    go_wp2_with fail
    go_ret
    exact ⟨rfl, hB1⟩
  · go_enter Try.func3, Try.ntmps3
    go_wp2_with fail
    go_at_call 6
    refine (cMNew w).mono ?_
    rintro e w1 ⟨rfl, ⟨q1, hK1⟩, hB1⟩
    have HP0 : Hid (Pv w (w1.alloc (.cells #[.slice none 0 0, .slice none 0 0, .slice none 0 0, .slice none 0 0, .int .i64 0, .int .i64 0, .int .i64 0, .int .i64 0, .int .i64 0, .int .i64 0, .int .i64 0, .int .i64 0] 33)) w.heap.size w1.heap.size (fun _ => Pl.none) (fun _ => Pl.none)) := hid (Pv.start hK1 hB1)
    clear hK1 hB1
    go_wp2_with fail
    generalize w1.alloc (.cells #[.slice none 0 0, .slice none 0 0, .slice none 0 0, .slice none 0 0, .int .i64 0, .int .i64 0, .int .i64 0, .int .i64 0, .int .i64 0, .int .i64 0, .int .i64 0, .int .i64 0] 33) = W1 at HP0 ⊢
    generalize w1.heap.size = x at HP0 ⊢
    obtain ⟨m, hm⟩ : ∃ m, m = w.heap.size := ⟨_, rfl⟩
    rw [← hm] at HP0 ⊢
    clear hm
    go_loopg [7, 8, 9, 10, 11, 12, 13] n (fun gg s7 s8 s9 s10 s11 s12 s13 wr => ∃ (j : Nat) (P : Nat → Pl), j ≤ n ∧ n - j ≤ gg ∧ s7 = .int .i64 j ∧ Hid (Pv w wr m x P P))
    case atStart => exact ⟨0, fun _ => Pl.none, Nat.zero_le _, by omega, rfl, HP0⟩
    case round =>
      obtain ⟨j, P, hj, hgg, rfl, HI⟩ := hrel
      clear HP0
      by_cases hlt : j < n
      · have hltz : (j : Int) < (n : Int) := by omega
        obtain ⟨y, hy⟩ : ∃ y, cs[j]? = some y := ⟨cs[j]'(by rw [← HN.out]; exact hlt), List.getElem?_eq_getElem (by rw [← HN.out]; exact hlt)⟩
        obtain ⟨b, o, rfl, hb, k0, k1, k2, k3, k4, k5, k6⟩ := HX.out j y hy
        have HBB := hid hb
        have HC := hid (fun (W : World) (hW : Below w.heap.size w W) => And.intro ((hW.cell (p := ⟨b, o + j * 7, none⟩) hb).trans k0) (And.intro ((hW.cell (p := ⟨b, o + j * 7 + 1, none⟩) hb).trans k1) (And.intro ((hW.cell (p := ⟨b, o + j * 7 + 2, none⟩) hb).trans k2) (And.intro ((hW.cell (p := ⟨b, o + j * 7 + 3, none⟩) hb).trans k3) (And.intro ((hW.cell (p := ⟨b, o + j * 7 + 4, none⟩) hb).trans k4) (And.intro ((hW.cell (p := ⟨b, o + j * 7 + 5, none⟩) hb).trans k5) ((hW.cell (p := ⟨b, o + j * 7 + 6, none⟩) hb).trans k6)))))))
        clear hy k0 k1 k2 k3 k4 k5 k6 hb
        obtain ⟨qa, hKa⟩ := HI.out.pm
        have HCL := hid (cMClone hKa HI.out.om)
        clear hKa
        go_wp2_with fail
        go_at_call 7
        refine HCL.out.mono ?_
        rintro e w2 ⟨rfl, ⟨q2, hK2⟩, hB2⟩
        have HP2 := hid (HI.out.on hB2)
        have HCN2 : Hid (Cn w w2 m wr.heap.size P) := hid ⟨⟨q2, hK2⟩, HI.out.om, HI.out.be.size, by have := HI.out.ne.2.1; omega⟩
        generalize wr.heap.size = mc at HCN2 ⊢
        clear hK2 hB2
        obtain ⟨qb, hKb⟩ := HP2.out.pm
        have HMB := hid hKb.ob
        have HA := hid (cApply hKb HP2.out.om y)
        have h8 := apply_len y HI.out.om
        obtain ⟨r, hr⟩ : ∃ r, r = applyF y P := ⟨_, rfl⟩
        rw [← hr] at HA h8
        have HRE := hid hr
        obtain ⟨err, fs, left, P'⟩ := r
        simp only at h8
        have H8 := hid h8
        obtain ⟨d0, d1, d2, d3, d4, d5, d6⟩ := HC.out w2 HP2.out.be
        have hbw2 : b < w2.heap.size := by have := HP2.out.be.size; have := HBB.out; omega
        clear hr h8 hKb
        go_wp2_with fail
        go_at_call 8
        refine HA.out.mono ?_
        intro e w3 hA
        have HP3 := hid (HP2.out.actM hA)
        obtain ⟨hok, f, q', rfl, hf, hK, hT⟩ := hA
        simp only at hok hf hK
        have HCN3 := hid (HCN2.out.tch HMB.out (by decide) (by decide) hT (fun e => HCN2.out.ne e.symm))
        obtain ⟨fa, fc, fn, rfl, hfn⟩ := hf.asSlice
        have HOK' := hid hok
        have hRB : Rb (w3.alloc (rpB err fa fn fc left)) w3.heap.size err fa fn fc left fs := ⟨heap_alloc_new w3 _, OwnG.mono (OwnG.on hf ((Below.refl _ w3).alloc (Nat.le_refl _) _)) (Nat.zero_le _)⟩
        have HRB4 := hid hRB
        have HP4 := hid (HP3.out.on ((Below.refl _ w3).alloc (Nat.le_refl _) (rpB err fa fn fc left)))
        have HCN4 := hid (HCN3.out.on ((Below.refl _ w3).alloc (Nat.le_refl _) (rpB err fa fn fc left)))
        clear hok hf hK hT hfn hRB d0 d1 d2 d3 d4 d5 d6 hbw2
        go_upto_region 10 with fail
        generalize w3.alloc (rpB err fa fn fc left) = W4 at HRB4 HP4 HCN4 ⊢
        generalize w3.heap.size = N9 at HRB4 ⊢
        have HPD := hid (HP4.out.on (belowDrew (Below.refl _ W4)))
        have HCD := hid (HCN4.out.on (belowDrew (Below.refl _ W4)))
        have HRD := hid (HRB4.out.on (belowDrew (Below.refl _ W4)))
        obtain ⟨vx, Lx, hMx⟩ := HPD.out.px
        have HMX := hid hMx.ob
        have hAX := rApp hMx HPD.out.ox y
        rw [← HRE.out] at hAX
        have HAX := hid hAX
        obtain ⟨d0, d1, d2, d3, d4, d5, d6⟩ := HC.out W4 HP4.out.be
        have hbw4 : b < W4.heap.size := by have := HP4.out.be.size; have := HBB.out; omega
        obtain ⟨z0, z1, z2, hz9⟩ := HRB4.out.cells
        clear hMx hAX
        go_cut [10] from 30 to 79 (fun s10 wx => s10 = .bool true ∧ Hid (Pv w wx m x P' P' ∧ Cn w wx m mc P ∧ Rb wx N9 err fa fn fc left fs))
        case first =>
          go_region_law (first
            | (go_simp; go_at_call 10; (
                refine HAX.out.mono ?_
                intro e w5 hA5
                have HP5 := hid (HPD.out.actX hA5 HOK'.out)
                obtain ⟨f5, v5, L5, rfl, hf5, hM5, hT5⟩ := hA5
                simp only at hf5 hM5
                obtain ⟨fa5, fc5, fn5, rfl, hfn5⟩ := hf5.asSlice
                have HCN5 := hid (HCD.out.tch HMX.out (by decide) (by decide) hT5 (fun e => by
                  obtain ⟨qc, hc⟩ := HCD.out.pc
                  exact ob_ne hc.ob HMX.out (by decide) e))
                have hrb5 := HRD.out.tch HMX.out (by decide) (by decide) hT5
                have HRB5 := hid hrb5
                obtain ⟨x0, x1, x2, hz5⟩ := hrb5.cells
                have HS5 := hid (rSame hrb5.fl hf5 H8.out err left)
                clear hf5 hM5 hT5 hfn5 hrb5))
            | (go_simp; go_at_call 9; (
                refine HS5.out.mono ?_
                rintro e w6 ⟨rfl, hB6⟩
                have HX6 := hid (And.intro (HP5.out.on hB6) (And.intro (HCN5.out.on hB6) (HRB5.out.on hB6)))
                clear hB6)))
          all_goals (
            go_wp2_with fail
            go_meet
            exact ⟨rfl, HX6⟩)
        case rest =>
        obtain ⟨rfl, HX6⟩ := hcut
        clear d0 d1 d2 d3 d4 d5 d6 hbw4 z0 z1 z2 hz9
        obtain ⟨qc, hKc⟩ := HX6.out.1.pm
        obtain ⟨vc, Lc, hMc⟩ := HX6.out.1.px
        have HSM := hid (rSameM hKc hMc HX6.out.1.om)
        clear hKc hMc
        go_wp2_with fail
        go_at_call 11
        refine HSM.out.mono ?_
        rintro e w7 ⟨rfl, hB7⟩
        have HP7 := hid (HX6.out.1.on hB7)
        have HCN7 := hid (HX6.out.2.1.on hB7)
        have HRB7 := hid (HX6.out.2.2.on hB7)
        clear hB7
        go_upto_region 12 with fail
        have HPE := hid (HP7.out.on (belowDrew (Below.refl _ w7)))
        have HCE := hid (HCN7.out.on (belowDrew (Below.refl _ w7)))
        have HRF := hid (HRB7.out.on (belowDrew (Below.refl _ w7)))
        obtain ⟨qd, hKd⟩ := HCE.out.pc
        have HKD := hid hKd
        have hAC := cApply hKd HCE.out.ok y
        rw [← HRE.out] at hAC
        have HAC := hid hAC
        obtain ⟨d0, d1, d2, d3, d4, d5, d6⟩ := HC.out w7 HP7.out.be
        have hbw7 : b < w7.heap.size := by have := HP7.out.be.size; have := HBB.out; omega
        obtain ⟨z0, z1, z2, hz9⟩ := HRB7.out.cells
        clear hKd hAC
        go_cut [12] from 30 to 79 (fun s12 wx => s12 = .bool true ∧ Hid (Pv w wx m x P' P' ∧ Cn w wx m mc P'))
        case first =>
          go_region_law (first
            | (go_simp; go_at_call 8; (
                refine HAC.out.mono ?_
                intro e w8 hA8
                obtain ⟨hok8, f8, q8, rfl, hf8, hK8, hT8⟩ := hA8
                simp only at hok8 hf8 hK8
                obtain ⟨fa8, fc8, fn8, rfl, hfn8⟩ := hf8.asSlice
                have HP8 := hid (HPE.out.other HKD.out hT8 HCE.out.ne HCE.out.hc)
                have HCN8 : Hid (Cn w w8 m mc P') := hid ⟨⟨q8, hK8⟩, hok8, HCE.out.hc, HCE.out.ne⟩
                have hrb8 := HRF.out.tch HKD.out.ob (by decide) (by decide) hT8
                obtain ⟨x0, x1, x2, hz8⟩ := hrb8.cells
                have HS8 := hid (rSame hf8 hrb8.fl H8.out err left)
                clear hok8 hf8 hK8 hT8 hfn8 hrb8))
            | (go_simp; go_at_call 9; (
                refine HS8.out.mono ?_
                rintro e w9 ⟨rfl, hB9⟩
                have HX9 := hid (And.intro (HP8.out.on hB9) (HCN8.out.on hB9))
                clear hB9)))
          all_goals (
            go_wp2_with fail
            go_meet
            exact ⟨rfl, HX9⟩)
        case rest =>
        obtain ⟨rfl, HX9⟩ := hcut
        clear d0 d1 d2 d3 d4 d5 d6 hbw7 z0 z1 z2 hz9
        obtain ⟨qe, hKe⟩ := HX9.out.2.pc
        obtain ⟨ve, Le, hMe⟩ := HX9.out.1.px
        have HSN := hid (rSameM hKe hMe HX9.out.2.ok)
        clear hKe hMe
        go_wp2_with fail
        go_at_call 11
        refine HSN.out.mono ?_
        rintro e wa ⟨rfl, hBa⟩
        have HPA := hid (HX9.out.1.on hBa)
        clear hBa
        go_wp2_with fail
        go_roundg (n - (j + 1))
        case measure => omega
        case rel => exact ⟨j + 1, P', by omega, by omega, by go_num, HPA⟩
      · have hltz : ¬ (j : Int) < (n : Int) := by omega
        have HKN := hid (fun W => rKnown z W)
        by_cases hz : 0 ≤ z ∧ z ≤ 3
        · obtain ⟨s, rfl⟩ : ∃ s : Nat, z = (s : Int) := ⟨z.toNat, by omega⟩
          have hs4 : s < 4 := by omega
          have HDT : Hid (decide (0 ≤ (s : Int) ∧ (s : Int) ≤ 3) = true) := hid (decide_eq_true hz)
          rw [HDT.out] at HKN
          obtain ⟨qk, hKk⟩ := HI.out.pm
          have hTu := fun W (hW : Below wr.heap.size wr W) => cTurnover (hKk.on hW) s hs4 (HI.out.om s hs4)
          have hAv := fun W (hW : Below wr.heap.size wr W) => cAverage (hKk.on hW) s hs4 (HI.out.om s hs4)
          obtain ⟨vo, hvo⟩ : ∃ vo, vo = (P s).vol := ⟨_, rfl⟩
          obtain ⟨va, hva⟩ : ∃ va, va = (P s).val := ⟨_, rfl⟩
          rw [← hvo, ← hva] at hTu hAv
          obtain ⟨av, hav⟩ : ∃ av, av = avgF vo va := ⟨_, rfl⟩
          rw [← hav] at hAv
          obtain ⟨a1, a2⟩ := av
          simp only at hAv
          have HTU := hid hTu
          have HAV := hid hAv
          clear hKk hTu hAv hvo hva hav hz
          go_wp2_with fail
          go_at_call 12
          refine (HKN.out _).mono ?_
          rintro e w2 ⟨rfl, rfl⟩
          go_wp2_with fail
          go_at_call 13
          refine (HTU.out _ (Below.refl _ _)).mono ?_
          rintro e w3 ⟨rfl, hB3⟩
          have HB3 := hid hB3
          clear hB3
          go_wp2_with fail
          go_at_call 14
          refine (HAV.out _ HB3.out).mono ?_
          rintro e w4 ⟨rfl, hB4⟩
          have HU0 := hid (HI.out.be.trans ((HB3.out.trans (hB4.mono HB3.out.size)).mono HI.out.be.size))
          clear hB4
          go_wp2_with fail
          go_at_call 8
          refine (cApply_nil _ _ _ _ _ _ _ _).mono ?_
          rintro e u1 ⟨rfl, hU1⟩
          have HU1 := hid (HU0.out.trans (hU1.mono HU0.out.size))
          clear hU1
          go_wp2_with fail
          go_at_call 13
          have HUA : Hid (Below w.heap.size w (u1.alloc (rpB 1 none 0 0 0))) := hid (HU1.out.alloc HU1.out.size _)
          have hqu := heap_alloc_new u1 (rpB 1 none 0 0 0)
          generalize hua : u1.alloc (rpB 1 none 0 0 0) = ua at HUA hqu ⊢
          generalize hun : u1.heap.size = NU at hqu ⊢
          have HQU := hid hqu
          clear hua hun hqu
          refine (cTurnover_off (w := ua) (v := none) (s := 0) (.inl rfl)).mono ?_
          rintro e u2 ⟨rfl, hU2⟩
          have HU2 := hid (HUA.out.trans (hU2.mono HUA.out.size))
          have HQ2 := hid (obOn HQU.out hU2 (Array.getElem?_eq_some_iff.1 HQU.out).1)
          clear hU2
          go_wp2_with fail
          go_at_call 5
          refine (cAlive _).mono ?_
          rintro e u3 ⟨rfl, hU3⟩
          have HU3 := hid (HU2.out.trans (hU3.mono HU2.out.size))
          have hq3 := obOn HQ2.out hU3 (Array.getElem?_eq_some_iff.1 HQ2.out).1
          have y0 := cellAt' hq3 0
          simp at y0
          clear hU3 hq3
          go_wp2_with fail
          go_at_call 15
          refine (cMOrders_off (w := u3) (v := none) (s := 0) (d := 0) (.inl rfl)).mono ?_
          rintro e u4 ⟨rfl, hU4⟩
          have HU4 := hid (HU3.out.trans (hU4.mono HU3.out.size))
          clear hU4 y0
          go_wp2_with fail
          go_at_call 7
          refine (cMClone_nil u4).mono ?_
          rintro e u5 ⟨rfl, hU5⟩
          have HU5 := hid (HU4.out.trans (hU5.mono HU4.out.size))
          clear hU5
          go_wp2_with fail
          go_ret
          exact ⟨rfl, HU5.out⟩
        · have HDT : Hid (decide (0 ≤ z ∧ z ≤ 3) = false) := hid (decide_eq_false hz)
          rw [HDT.out] at HKN
          have HOF : Hid (Off (some m) z) := hid (.inr (by omega))
          clear hz
          go_wp2_with fail
          go_at_call 12
          refine (HKN.out _).mono ?_
          rintro e w2 ⟨rfl, rfl⟩
          go_wp2_with fail
          go_at_call 13
          refine (cTurnover_off HOF.out).mono ?_
          rintro e w3 ⟨rfl, hB3⟩
          have HB3 := hid (HI.out.be.trans (hB3.mono HI.out.be.size))
          clear hB3
          go_wp2_with fail
          go_at_call 14
          refine (cAverage_off HOF.out).mono ?_
          rintro e w4 ⟨rfl, hB4⟩
          have HB4 := hid (HB3.out.trans (hB4.mono HB3.out.size))
          clear hB4
          go_wp2_with fail
          go_at_call 15
          refine (cMOrders_off HOF.out).mono ?_
          rintro e w5 ⟨rfl, hB5⟩
          have HB5 := hid (HB4.out.trans (hB5.mono HB4.out.size))
          clear hB5
          go_wp2_with fail
          go_at_call 15
          refine (cMOrders_off HOF.out).mono ?_
          rintro e w6 ⟨rfl, hB6⟩
          have HU0 := hid (HB5.out.trans (hB6.mono HB5.out.size))
          clear hB6
          go_wp2_with fail
          go_at_call 8
          refine (cApply_nil _ _ _ _ _ _ _ _).mono ?_
          rintro e u1 ⟨rfl, hU1⟩
          have HU1 := hid (HU0.out.trans (hU1.mono HU0.out.size))
          clear hU1
          go_wp2_with fail
          go_at_call 13
          have HUA : Hid (Below w.heap.size w (u1.alloc (rpB 1 none 0 0 0))) := hid (HU1.out.alloc HU1.out.size _)
          have hqu := heap_alloc_new u1 (rpB 1 none 0 0 0)
          generalize hua : u1.alloc (rpB 1 none 0 0 0) = ua at HUA hqu ⊢
          generalize hun : u1.heap.size = NU at hqu ⊢
          have HQU := hid hqu
          clear hua hun hqu
          refine (cTurnover_off (w := ua) (v := none) (s := 0) (.inl rfl)).mono ?_
          rintro e u2 ⟨rfl, hU2⟩
          have HU2 := hid (HUA.out.trans (hU2.mono HUA.out.size))
          have HQ2 := hid (obOn HQU.out hU2 (Array.getElem?_eq_some_iff.1 HQU.out).1)
          clear hU2
          go_wp2_with fail
          go_at_call 5
          refine (cAlive _).mono ?_
          rintro e u3 ⟨rfl, hU3⟩
          have HU3 := hid (HU2.out.trans (hU3.mono HU2.out.size))
          have hq3 := obOn HQ2.out hU3 (Array.getElem?_eq_some_iff.1 HQ2.out).1
          have y0 := cellAt' hq3 0
          simp at y0
          clear hU3 hq3
          go_wp2_with fail
          go_at_call 15
          refine (cMOrders_off (w := u3) (v := none) (s := 0) (d := 0) (.inl rfl)).mono ?_
          rintro e u4 ⟨rfl, hU4⟩
          have HU4 := hid (HU3.out.trans (hU4.mono HU3.out.size))
          clear hU4 y0
          go_wp2_with fail
          go_at_call 7
          refine (cMClone_nil u4).mono ?_
          rintro e u5 ⟨rfl, hU5⟩
          have HU5 := hid (HU4.out.trans (hU5.mono HU4.out.size))
          clear hU5
          go_wp2_with fail
          go_ret
          exact ⟨rfl, HU5.out⟩
end Go.Proofs.Ytdgllpfccdbdnaa

/- From a row's condition to the walk: a slice of commands that came in, as a list of commands that lie in its cells. -/
namespace Go.Proofs.Ytdgllpfccdbdnaa
set_option linter.unusedVariables false
open Go.Joins Go.ChangeShapes Go.WideShapes Go.ChangeAt Go.RowKit Go.Deep

theorem list_of {n : Nat} {P : Nat → C7 → Prop} (h : ∀ i, i < n → ∃ c, P i c) : ∃ cs : List C7, cs.length = n ∧ ∀ (j : Nat) c, cs[j]? = some c → P j c := by
  induction n with
  | zero => exact ⟨[], rfl, fun j c hc => by simp at hc⟩
  | succ n ih =>
    obtain ⟨cs, hl, hp⟩ := ih fun i hi => h i (by omega)
    obtain ⟨c, hc⟩ := h n (by omega)
    refine ⟨cs ++ [c], by simp [hl], fun j d hd => ?_⟩
    by_cases hj : j < cs.length
    · rw [List.getElem?_append_left hj] at hd; exact hp j d hd
    · have hlen := (List.getElem?_eq_some_iff.1 hd).1
      simp at hlen
      obtain rfl : j = cs.length := by omega
      simp at hd
      subst hd
      rw [hl]; exact hc

theorem add_plain (b o n : Nat) : (⟨b, o, none⟩ : Addr).add n = ⟨b, o + n, none⟩ := by
  by_cases h : n = 0
  · subst h; simp [Addr.add]
  · simp [Addr.add, h]

/-- A slice of structs of one-cell fields, field by field. -/
theorem open_fields {H : Type} {enc : TypeId × Value → H} {P : Program} {w : World} {base : Nat} {spare : Nat → Bool} {held : Bool} {t e : TypeId} {fs : Array Field} {fuel : Nat} {cs : List Value} {x : DataW H × List MemPlace} (ht : P.underlying t = some (.slice e)) (he : P.underlying e = some (.struct fs))
    (hone : oneCellFields P fs = true) (hC : P.cellsOf e = fs.size) (h : DataW.trod enc P w base spare held fuel t cs = some x) :
    cs = [.slice none 0 0] ∨
    ∃ (a : Addr) (len cap : Nat), cs = [.slice (some a) len cap] ∧ len ≤ maxLen ∧
      ∀ i, i < len → ∃ n : Nat, ∀ (j : Nat) (f : Field), fs[j]? = some f → ∃ (v : Value) (y : DataW H × List MemPlace), w.cell? (a.add (i * fs.size + j)) = some v ∧ DataW.trod enc P w base spare held n f.type [v] = some y := by
  rcases open_slice ht h with h0 | ⟨a, len, cap, m, n, D, Pl, hcs, _, hl, hm, hmm, _, hi⟩
  · exact .inl h0.1
  · refine .inr ⟨a, len, cap, hcs, by omega, fun i him => ?_⟩
    obtain ⟨cs', hc, ht'⟩ := hi i (by rw [hmm]; split <;> omega)
    rw [hC] at hc
    obtain ⟨ys, n', _, _, hlen, hyl, hf⟩ := DataW.trod_struct he ht'
    obtain ⟨_, _, hat⟩ := World.cells?_some hc
    refine ⟨n', fun j f hj => ?_⟩
    obtain ⟨ho, hk⟩ := hone_of hone j f hj
    have hjl : j < fs.size := (Array.getElem?_eq_some_iff.1 hj).1
    have hcell := hat j hjl
    have hv : cs'[j]? = some (cs'[j]'(by omega)) := List.getElem?_eq_getElem (by omega)
    have h1 := hf j f hj
    rw [ho, hk] at h1
    have hone' : (cs'.drop j).take 1 = [cs'[j]'(by omega)] := by
      rw [List.drop_eq_getElem_cons (by omega)]
      rfl
    rw [hone'] at h1
    have hys : ys[j]? = some (ys[j]'(by omega)) := List.getElem?_eq_getElem (by omega)
    refine ⟨_, _, ?_, h1.trans hys⟩
    rw [← Go.Deep.add_add, hcell, hv]

set_option maxRecDepth 100000 in
/-- The commands that came in: a nil slice, or so many commands behind an address. -/
theorem open_cmds {H : Type} {enc : TypeId × Value → H} {W : World} {base : Nat} {spare : Nat → Bool} {held : Bool} {b0 : Nat} {v : Value} {d : DataW H} {p : List MemPlace} (hv : Value.okWide Try.prog W .any b0 22 v) (h : DataW.Trod enc Try.prog W base spare held 22 v d p) :
    ∃ cs : List C7, Sl W v cs ∧ cs.length ≤ 9223372036854775807 := by
  obtain ⟨a0, n0, c0, rfl⟩ := okWide_slice Try.underlying22 hv
  obtain ⟨fuel, hf⟩ := h
  rcases open_fields Try.underlying22 Try.underlying42 (by kernel_rfl) (by kernel_rfl) hf with h0 | ⟨a, len, cap, hcs, hm, hi⟩
  · simp [Value.cells] at h0
    obtain ⟨rfl, rfl, rfl⟩ := h0
    exact ⟨[], ⟨0, 0, 0, none, rfl, fun _ => rfl, fun h => absurd h (by simp), fun j c hc => by simp at hc, fun h => absurd h (by simp)⟩, by simp⟩
  · simp [Value.cells] at hcs
    obtain ⟨rfl, rfl, rfl⟩ := hcs
    obtain ⟨cs, hl, hp⟩ := list_of (n := n0) (P := fun i c => ∀ (f : Nat) u, c.cells[f]? = some u → W.cell? (a.add (i * 7 + f)) = some u) fun i hlt => by
      obtain ⟨n, hf⟩ := hi i hlt
      obtain ⟨v0, y0, g0, t0⟩ := hf 0 _ rfl
      obtain ⟨v1, y1, g1, t1⟩ := hf 1 _ rfl
      obtain ⟨v2, y2, g2, t2⟩ := hf 2 _ rfl
      obtain ⟨v3, y3, g3, t3⟩ := hf 3 _ rfl
      obtain ⟨v4, y4, g4, t4⟩ := hf 4 _ rfl
      obtain ⟨v5, y5, g5, t5⟩ := hf 5 _ rfl
      obtain ⟨v6, y6, g6, t6⟩ := hf 6 _ rfl
      obtain ⟨z0, e0, _, _⟩ := DataW.trod_int Try.underlying3 t0
      obtain ⟨z1, e1, _, _⟩ := DataW.trod_int Try.underlying39 t1
      obtain ⟨z2, e2, _, _⟩ := DataW.trod_int Try.underlying3 t2
      obtain ⟨z3, e3, _, _⟩ := DataW.trod_int Try.underlying3 t3
      obtain ⟨z4, e4, _, _⟩ := DataW.trod_int Try.underlying40 t4
      obtain ⟨z5, e5, _, _⟩ := DataW.trod_int Try.underlying3 t5
      obtain ⟨z6, e6, _, _⟩ := DataW.trod_int Try.underlying3 t6
      simp only [List.cons.injEq, and_true] at e0 e1 e2 e3 e4 e5 e6
      subst e0 e1 e2 e3 e4 e5 e6
      refine ⟨⟨z0, z1, z2, z3, z4, z5, z6⟩, fun f u hu => ?_⟩
      match f, hu with
      | 0, hu => obtain rfl := Option.some.inj hu; exact g0
      | 1, hu => obtain rfl := Option.some.inj hu; exact g1
      | 2, hu => obtain rfl := Option.some.inj hu; exact g2
      | 3, hu => obtain rfl := Option.some.inj hu; exact g3
      | 4, hu => obtain rfl := Option.some.inj hu; exact g4
      | 5, hu => obtain rfl := Option.some.inj hu; exact g5
      | 6, hu => obtain rfl := Option.some.inj hu; exact g6
      | _ + 7, hu => cases hu
    have hfirst : 0 < cs.length → a.spot = none ∧ a.block < W.heap.size := fun h0 => by
      have hc : cs[0]? = some cs[0] := List.getElem?_eq_getElem h0
      have := hp 0 _ hc 0 _ rfl
      exact ⟨by simpa [Addr.add] using World.cell?_spot this, by simpa [Addr.add] using World.block_lt_of_cell? W _ this⟩
    obtain ⟨b, o, spot⟩ := a
    refine ⟨cs, ⟨b, o, c0, some ⟨b, o, spot⟩, by rw [hl], (fun e => by cases e), fun h0 => ?_, fun j c hc f u hu => ?_, fun h0 => (hfirst h0).2⟩, ?_⟩
    · rw [show spot = none from (hfirst h0).1]
    · have h0 : 0 < cs.length := by have := (List.getElem?_eq_some_iff.1 hc).1; omega
      have := hp j c hc f u hu
      rw [show spot = none from (hfirst h0).1] at this
      rw [add_plain] at this
      exact this
    · rw [hl]; exact Nat.le_trans hm (by decide)

theorem own : ownKnob Try.prog.godebug = none := by kernel_rfl
theorem laidOut : laidOutB Try.prog = true := by kernel_rfl
end Go.Proofs.Ytdgllpfccdbdnaa
namespace Go.Proofs.Ytdgllpfccdbdnaa
set_option linter.unusedVariables false
open Go.Joins Go.ChangeShapes Go.WideShapes Go.ChangeAt Go.RowKit Go.Deep

set_option maxRecDepth 100000 in
theorem lifted (os : Os) (started : os.Started) (H : Type) (enc : TypeId × Value → H) :
    ReturnsInHanded {} Try.checked os 3 .any (Rows.marketPlaysSpec.pre6 enc Try.prog Try.f3 Rows.marketPlaysRow.domain false) (Rows.marketPlaysSpec.post enc Try.prog Try.f3 false true false false) := by
  refine returnsInHanded_of_change (C := Try.checked) own started (by kernel_rfl) Try.func3
    (ChangeSpec.witness6 (enc := enc) (C := Try.checked) false ⟨#[], #[.slice none 0 0, .int .i64 0], []⟩ 8 (by kernel_rfl) (by kernel_rfl) (by kernel_rfl) (by kernel_rfl)) ?_
  intro W base args ds gs before hval0 hW hcnd _
  have hval : ∀ (j : Nat) t v, Try.f3.params[j]? = some t → args[j]? = some v → Value.okWide Try.prog W .any base t v := hval0
  have hW' := hW
  obtain ⟨p, q, hA0, hV, rfl, hfz, hnd⟩ := hW
  have hA : DataW.TrodAll enc Try.prog W 0 (fun _ => true) true Try.f3.params.toList args.toList ds p := hA0
  rw [Try.params3] at hA hval
  obtain ⟨v0, v1, d0, d1, p0, p1, rfl, rfl, rfl, h0, h1⟩ := trodAll_two hA
  obtain ⟨rfl, rfl⟩ := trodVars_none hV
  obtain ⟨cs, ha, _⟩ := open_cmds (hval 0 22 v0 rfl rfl) h0
  obtain ⟨i, rfl, rfl, rfl, wi⟩ := open_int Try.underlying3 (hval 1 3 v1 rfl rfl) h1
  have hwk := wPlays ha i
  refine hwk.mono fun e W' ⟨he, hB⟩ => ?_
  subst he
  have hlt0 : ∀ x ∈ p0, x.block < W.heap.size := fun x hx => hW'.lt x (by simp [hx])
  exact ⟨_, rfl, _, _, _, [], p0 ++ ([] ++ []), [], hW', trodAll_mk1 (shut_bool Try.underlying4 _), trodAll_cons_mk (Below.trod laidOut (by kernel_rfl) (of_decide_eq_true (by kernel_rfl)) h0 hB hlt0) (trodAll_cons_mk (shut_int Try.underlying3 wi) trodAll_mk0), rfl, hB.frame _, fun h => by cases h⟩

theorem over : Rows.marketPlaysRow.holds Try.pinned (OpenSpec.ofChange Rows.marketPlaysSpec) :=
  OpenClaim.holds_of_wide 3 Try.f3 rfl rfl rfl rfl rfl rfl rfl ⟨rfl, rfl, rfl, rfl, rfl⟩ rfl rfl rfl rfl rfl (by kernel_rfl) Try.func3 (by kernel_rfl)
    (of_decide_eq_true (by kernel_rfl)) (by unfold Func.isWrapper; first | (rw [if_pos (by decide +kernel)]; kernel_rfl) | (rw [if_neg (by decide +kernel)]; exact ⟨rfl, rfl⟩))
    (fun os started H enc _ => lifted os started H enc)

/-- The statement. -/
theorem proved : Rows.MarketPlaysSaid :=
  over
end Go.Proofs.Ytdgllpfccdbdnaa
