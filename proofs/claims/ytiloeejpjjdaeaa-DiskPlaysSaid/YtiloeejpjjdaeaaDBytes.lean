/- The program's disk: what is told of it, another one with the same. -/
import Derived.Test.YtiloeejpjjdaeaaDDisk
import Derived.Deep.RegionHeld3
namespace Go.Proofs.Ytiloeejpjjdaeaa
set_option linter.unusedVariables false
open Go.RowKit
open Go.Lib (hid)
set_option maxHeartbeats 1600000 in
set_option maxRecDepth 100000 in
theorem cBytes {w : World} {p : Nat} {room s : Int} {v : Value} {l : List UInt8} (h : Dk w p room v s) (hv : SlB w v l) (hl : l.length ≤ 1000000) : Calls Try.prog 13 #[ptr p] w fun e w' => ∃ r, e = .returned r ∧ OwnB w' w.heap.size r l ∧ Below w.heap.size w w' := by
  have HP := hid h
  have HV := hid hv
  obtain ⟨hlt, c0, c1, c2, f0, f1, f2⟩ := h.cells
  obtain ⟨a, cap, rfl, hcap, _⟩ := hv.any
  obtain ⟨n, hn⟩ : ∃ n, n = l.length := ⟨_, rfl⟩
  rw [← hn] at c1 hl HV HP
  have HN := hid hn
  clear h hv hcap hn c0 c2 f0 f1 f2
  obtain ⟨i0, hi, hz0, hz1, hz2⟩ := info_parts Try.infoB
  have HM1 : Hid (i0.bytes * n ≤ 281474976710656) := hid (by rw [hz2]; omega)
  have HM2 : Hid (n ≤ maxLen) := hid (by unfold maxLen; omega)
  have HL1 : Hid ((octs l).length = Nat.min n n) := hid (by rw [octs_len, ← HN.out]; simp)
  have HL2 : Hid (∀ W : World, SlB W (.slice a n cap) l → 0 < (octs l).length → ∃ ad, a = some ad ∧ ∀ j v, (octs l)[j]? = some v → W.cell? (ad.add j) = some v) := hid (fun W hW h0 => by
    rcases hW.src with ⟨_, e⟩ | ⟨ad, c, e, hc, _⟩
    · rw [e] at h0; simp [octs] at h0
    · injection e with e1 e2 e3
      exact ⟨ad, e1, hc⟩)
  have HI : Hid ((Try.prog.info? 5).map (·.size) = some 1) := hid (by kernel_rfl)
  have HL3 : Hid (∀ cur : List Value, cur.length = n → 0 + (octs l).length ≤ cur.length) := hid (fun cur h => by rw [octs_len, h, ← HN.out]; omega)
  go_enter Try.func13, Try.ntmps13
  go_wp2_with (first
    | (at_make; refine wpList_make_full w rfl _ _ 33 rfl w.heap.size 5 i0 _ 1 Try.underlying33 hi hz0 hz1 _ _ _ _ n rfl rfl rfl rfl HM1.out HM2.out (Nat.le_refl _) ?_; intro w1 hr hg; have hb := belowNone hg; have HB := hid hb; have d1 := (hb.cell (p := ⟨p, 1, none⟩) hlt).trans c1; have hq := obOn HP.out hb hlt; have HS := hid (HV.out.on hb); obtain ⟨cur, hcur, hlen, _, _⟩ := row_of hr; have HC := hid (And.intro hcur hlen); clear hr hg hb hcur hlen hq)
    | (with_reducible refine wpList_copy_splice rfl _ _ _ _ rfl 5 Try.underlying33 HI.out (some ⟨w.heap.size, 0, none⟩) a n n n cap rfl rfl w.heap.size 0 cur 5 HC.out.1 (octs l) ?n1 ?n2 ?n3 (octs_one _) w.heap.size w HB.out (Nat.le_refl _) ?_; (case n1 => exact HL1.out); (case n2 => exact fun h0 => ⟨rfl, HL2.out _ HS.out h0⟩); (case n3 => exact HL3.out _ HC.out.2); intro w2 HG2 hb2; have HB2 := hid hb2; clear hb2))
  go_ret
  exact ⟨_, rfl, own_row (by rw [← splice_all (cur := cur) (cs := octs l) (by rw [HC.out.2, octs_len, HN.out])]; exact HG2.out) (Nat.le_refl _) HN.out.symm HM2.out, HB2.out⟩

set_option maxHeartbeats 1600000 in
set_option maxRecDepth 100000 in
theorem cClone {w : World} {p : Nat} {room s : Int} {v : Value} {l : List UInt8} (h : Dk w p room v s) (hv : SlB w v l) (hl : l.length ≤ 1000000) : Calls Try.prog 16 #[ptr p] w fun e w' => ∃ q r, e = .returned (ptr q) ∧ Dk w' q room r s ∧ OwnB w' w.heap.size r l ∧ w.heap.size ≤ q ∧ Below w.heap.size w w' := by
  have hlt := (Array.getElem?_eq_some_iff.1 h).1
  have HK := hid (fun (W W' : World) (h : w.heap.size ≤ W.heap.size ∧ Below w.heap.size w W ∧ W.cell? ⟨p, 0, none⟩ = some (.int .i64 room) ∧ W.cell? ⟨p, 2, none⟩ = some (.int .i64 s)) (hb : Below w.heap.size W W') => (show w.heap.size ≤ W'.heap.size ∧ Below w.heap.size w W' ∧ W'.cell? ⟨p, 0, none⟩ = some (.int .i64 room) ∧ W'.cell? ⟨p, 2, none⟩ = some (.int .i64 s) from
    ⟨Nat.le_trans h.1 hb.size, h.2.1.trans hb, (hb.cell (p := ⟨p, 0, none⟩) hlt).trans h.2.2.1, (hb.cell (p := ⟨p, 2, none⟩) hlt).trans h.2.2.2⟩))
  have HC := hid (fun (W : World) (hb : Below w.heap.size w W) => cBytes (obOn h hb hlt) (hv.on hb) hl)
  obtain ⟨_, c0, c1, c2, f0, f1, f2⟩ := h.cells
  have HS0 := hid (show w.heap.size ≤ w.drew.heap.size ∧ Below w.heap.size w w.drew ∧ w.drew.cell? ⟨p, 0, none⟩ = some (.int .i64 room) ∧ w.drew.cell? ⟨p, 2, none⟩ = some (.int .i64 s) from ⟨Nat.le_refl _, belowDrew (Below.refl _ _), c0, c2⟩)
  clear h hv c1 f0 f1 f2
  go_enter Try.func16, Try.ntmps16
  go_wp2
  go_region_held3 (fun W => w.heap.size ≤ W.heap.size ∧ Below w.heap.size w W ∧ W.cell? ⟨p, 0, none⟩ = some (.int .i64 room) ∧ W.cell? ⟨p, 2, none⟩ = some (.int .i64 s)) (first | exact HS0.out | assumption | exact HK.out _ _ (by assumption) ((Below.refl _ _).alloc (by omega) _)) (first | (go_at_call 13; refine (HC.out _ (show w.heap.size ≤ _ ∧ Below w.heap.size w _ ∧ _ from by assumption).2.1).mono ?_; rintro e w3 ⟨r, rfl, ho, hb⟩; have hS3 := HK.out _ _ (by assumption) (hb.mono (show w.heap.size ≤ _ ∧ Below w.heap.size w _ ∧ _ from by assumption).1); have HO : Hid (OwnB w3 w.heap.size r l) := hid (own_monoB ho (show w.heap.size ≤ _ ∧ Below w.heap.size w _ ∧ _ from by assumption).1); obtain ⟨ga, ca, na, rfl, hna⟩ := ho.asSlice; clear ho hb hna))
  go_wp2
  go_ret
  exact ⟨_, _, rfl, heap_alloc_new w3 _, World.ownsRow.alloc HO.out _, hS3.1, hS3.2.1.alloc hS3.1 _⟩
end Go.Proofs.Ytiloeejpjjdaeaa
