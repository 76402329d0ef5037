/- The program's market: Clone. -/
import Derived.Test.YtdgllpfccdbdnaaKMkt
namespace Go.Proofs.Ytdgllpfccdbdnaa
set_option linter.unusedVariables false
set_option linter.unusedSimpArgs false
open Go.RowKit
open Go.Lib (hid)

theorem Mk.on {w w' : World} {m : Nat} {q : Nat → Nat} {P : Nat → Pl} (h : Mk w m q P) (hb : Below w.heap.size w w') : Mk w' m q P :=
  ⟨obOn h.ob hb (Array.getElem?_eq_some_iff.1 h.ob).1, fun i hi => (h.at' i hi).on hb⟩
def Mq (w wr : World) (k : Nat) (P : Nat → Pl) : Prop := ∃ V, Mg w wr k V P
theorem Mq.step {w wr w2 : World} {k q' : Nat} {P : Nat → Pl} (h : Mq w wr k P) (hk : k < 4) (hb : Below wr.heap.size wr w2) (hq : BkQ w2 q' (P k)) :
    Mq w ((w2.setCell ⟨w.heap.size, 2 * k, none⟩ (ptr q')).setCell ⟨w.heap.size, 2 * k + 1, none⟩ (cx (P k))) (k + 1) P ∧ ((∃ x, w2.cell? ⟨w.heap.size, 2 * k, none⟩ = some x) ∧ (∃ x, w2.cell? ⟨w.heap.size, 2 * k + 1, none⟩ = some x)) ∧ ∀ f, w2.frozen? ⟨w.heap.size, f, none⟩ = false := by
  obtain ⟨V, hM⟩ := h
  have hx := MkO.at2 (obOn hM.ob hb (Array.getElem?_eq_some_iff.1 hM.ob).1) hk
  exact ⟨⟨_, hM.next hk hb hq⟩, ⟨⟨_, hx.1.1⟩, ⟨_, hx.1.2⟩⟩, hx.2⟩

theorem Mq.be {w wr : World} {k : Nat} {P : Nat → Pl} (h : Mq w wr k P) : Below w.heap.size w wr := by
  obtain ⟨V, hM⟩ := h
  exact hM.be
theorem Mq.all {w wr : World} {P : Nat → Pl} (h : Mq w wr 4 P) : ∃ q, Mk wr w.heap.size q P := by
  obtain ⟨V, hM⟩ := h
  exact hM.all
theorem BkQ.low {w : World} {B q : Nat} {P : Pl} (h : ∃ va vb, BkA w B q va vb P.bs P.ss) : BkQ w q P := by
  obtain ⟨va, vb, h⟩ := h
  exact ⟨va, vb, h.low (Nat.zero_le _)⟩
set_option maxHeartbeats 3200000 in
set_option maxRecDepth 100000 in
theorem cMClone {w : World} {m : Nat} {q : Nat → Nat} {P : Nat → Pl} (h : Mk w m q P) (hok : ∀ i, i < 4 → PlOk (P i)) : Calls Try.prog 7 #[ptr m] w fun e w' => e = .returned (ptr w.heap.size) ∧ (∃ q', Mk w' w.heap.size q' P) ∧ Below w.heap.size w w' := by
  have HC : Hid (∀ i, i < 4 → ∀ W, Below w.heap.size w W → Calls Try.prog 17 #[plV (q i) (P i)] W fun e w' => ∃ q', e = .returned (plV q' (P i)) ∧ (∃ va vb, BkA w' W.heap.size q' va vb (P i).bs (P i).ss) ∧ Below W.heap.size W w') := hid fun i hi W hW => cCopied ((h.at' i hi).on hW) (hok i hi).1
  obtain ⟨hm, ⟨g0, g1, g2, g3, g4, g5, g6, g7⟩, _⟩ := MkO.cells h.ob
  have ix0 : ∀ W, (Instr.index 60 (.agg #[ptr (q 0), cx (P 0), ptr (q 1), cx (P 1), ptr (q 2), cx (P 2), ptr (q 3), cx (P 3)]) (.int .i64 0)).run Try.prog W = .ok (plV (q 0) (P 0)) W := fun W => by first | kernel_rfl | rfl
  have ix1 : ∀ W, (Instr.index 60 (.agg #[ptr (q 0), cx (P 0), ptr (q 1), cx (P 1), ptr (q 2), cx (P 2), ptr (q 3), cx (P 3)]) (.int .i64 1)).run Try.prog W = .ok (plV (q 1) (P 1)) W := fun W => by first | kernel_rfl | rfl
  have ix2 : ∀ W, (Instr.index 60 (.agg #[ptr (q 0), cx (P 0), ptr (q 1), cx (P 1), ptr (q 2), cx (P 2), ptr (q 3), cx (P 3)]) (.int .i64 2)).run Try.prog W = .ok (plV (q 2) (P 2)) W := fun W => by first | kernel_rfl | rfl
  have ix3 : ∀ W, (Instr.index 60 (.agg #[ptr (q 0), cx (P 0), ptr (q 1), cx (P 1), ptr (q 2), cx (P 2), ptr (q 3), cx (P 3)]) (.int .i64 3)).run Try.prog W = .ok (plV (q 3) (P 3)) W := fun W => by first | kernel_rfl | rfl
  have HI0 : Hid (Mq w (w.alloc (.cells #[.pointer none, .complex .f64 0 0, .pointer none, .complex .f64 0 0, .pointer none, .complex .f64 0 0, .pointer none, .complex .f64 0 0] 62)) 0 P) := hid ⟨fun _ => (.pointer none, .complex .f64 0 0), ⟨heap_alloc_new w _, fun i hi => absurd hi (Nat.not_lt_zero _), (Below.refl _ w).alloc (Nat.le_refl _) _⟩⟩
  clear h hok
  go_enter Try.func7, Try.ntmps7
  go_wp2_with fail
  clear g0 g1 g2 g3 g4 g5 g6 g7
  go_loopg [4, 5, 14] 4 (fun gg s4 s5 s14 wr => ∃ k : Nat, k ≤ 4 ∧ 4 - k ≤ gg ∧ s14 = .int .i64 k ∧ Hid (Mq w wr k P))
  case atStart => exact ⟨0, by omega, by omega, rfl, HI0⟩
  case round =>
    obtain ⟨k, hk, hg, rfl, HI⟩ := hrel
    clear HI0
    obtain rfl | rfl | rfl | rfl | rfl : k = 0 ∨ k = 1 ∨ k = 2 ∨ k = 3 ∨ k = 4 := by omega
    · have hst := stC (P 0).vol (P 0).val
      go_wp2_with fail
      refine opaqueR _ ?_
      intro W hW
      have hBW : Below wr.heap.size wr W.drew := by rw [hW]; exact ((Below.refl _ wr).alloc (Nat.le_refl _) _).drew
      have b1 : W.drew.heap[wr.heap.size]? = some (.cells #[ptr (q 0), cx (P 0)] 59 (0, 0)) := by rw [hW]; exact heap_alloc_new wr _
      have j0 := cellAt' b1 0
      have j1 := cellAt' b1 1
      simp at j0 j1
      have HBW := hid hBW
      clear b1 hBW hW
      go_region_law (first
        | (go_simp; go_at_call 17; (
            refine (HC.out 0 (by omega) _ ((HI.out.be).trans (HBW.out.mono HI.out.be.size))).mono ?_
            rintro e w2 ⟨q', rfl, hK, hB⟩
            have hx : Mq w ((w2.setCell ⟨w.heap.size, 0, none⟩ (ptr q')).setCell ⟨w.heap.size, 1, none⟩ (cx (P 0))) 1 P ∧ ((∃ x, w2.cell? ⟨w.heap.size, 0, none⟩ = some x) ∧ (∃ x, w2.cell? ⟨w.heap.size, 1, none⟩ = some x)) ∧ ∀ f, w2.frozen? ⟨w.heap.size, f, none⟩ = false := Mq.step (k := 0) HI.out (by omega) (HBW.out.trans (hB.mono HBW.out.size)) (BkQ.low hK)
            obtain ⟨h1, ⟨⟨x0, h2⟩, ⟨x1, h4⟩⟩, h3⟩ := hx
            have HX := hid h1
            clear h1 hK hB)))
      all_goals (
        go_wp2_with fail
        go_roundg 3
        case measure => omega
        case rel => exact ⟨1, by omega, by omega, by go_num, HX⟩)
    · have hst := stC (P 1).vol (P 1).val
      go_wp2_with fail
      refine opaqueR _ ?_
      intro W hW
      have hBW : Below wr.heap.size wr W.drew := by rw [hW]; exact ((Below.refl _ wr).alloc (Nat.le_refl _) _).drew
      have b1 : W.drew.heap[wr.heap.size]? = some (.cells #[ptr (q 1), cx (P 1)] 59 (0, 0)) := by rw [hW]; exact heap_alloc_new wr _
      have j0 := cellAt' b1 0
      have j1 := cellAt' b1 1
      simp at j0 j1
      have HBW := hid hBW
      clear b1 hBW hW
      go_region_law (first
        | (go_simp; go_at_call 17; (
            refine (HC.out 1 (by omega) _ ((HI.out.be).trans (HBW.out.mono HI.out.be.size))).mono ?_
            rintro e w2 ⟨q', rfl, hK, hB⟩
            have hx : Mq w ((w2.setCell ⟨w.heap.size, 2, none⟩ (ptr q')).setCell ⟨w.heap.size, 3, none⟩ (cx (P 1))) 2 P ∧ ((∃ x, w2.cell? ⟨w.heap.size, 2, none⟩ = some x) ∧ (∃ x, w2.cell? ⟨w.heap.size, 3, none⟩ = some x)) ∧ ∀ f, w2.frozen? ⟨w.heap.size, f, none⟩ = false := Mq.step (k := 1) HI.out (by omega) (HBW.out.trans (hB.mono HBW.out.size)) (BkQ.low hK)
            obtain ⟨h1, ⟨⟨x0, h2⟩, ⟨x1, h4⟩⟩, h3⟩ := hx
            have HX := hid h1
            clear h1 hK hB)))
      all_goals (
        go_wp2_with fail
        go_roundg 2
        case measure => omega
        case rel => exact ⟨2, by omega, by omega, by go_num, HX⟩)
    · have hst := stC (P 2).vol (P 2).val
      go_wp2_with fail
      refine opaqueR _ ?_
      intro W hW
      have hBW : Below wr.heap.size wr W.drew := by rw [hW]; exact ((Below.refl _ wr).alloc (Nat.le_refl _) _).drew
      have b1 : W.drew.heap[wr.heap.size]? = some (.cells #[ptr (q 2), cx (P 2)] 59 (0, 0)) := by rw [hW]; exact heap_alloc_new wr _
      have j0 := cellAt' b1 0
      have j1 := cellAt' b1 1
      simp at j0 j1
      have HBW := hid hBW
      clear b1 hBW hW
      go_region_law (first
        | (go_simp; go_at_call 17; (
            refine (HC.out 2 (by omega) _ ((HI.out.be).trans (HBW.out.mono HI.out.be.size))).mono ?_
            rintro e w2 ⟨q', rfl, hK, hB⟩
            have hx : Mq w ((w2.setCell ⟨w.heap.size, 4, none⟩ (ptr q')).setCell ⟨w.heap.size, 5, none⟩ (cx (P 2))) 3 P ∧ ((∃ x, w2.cell? ⟨w.heap.size, 4, none⟩ = some x) ∧ (∃ x, w2.cell? ⟨w.heap.size, 5, none⟩ = some x)) ∧ ∀ f, w2.frozen? ⟨w.heap.size, f, none⟩ = false := Mq.step (k := 2) HI.out (by omega) (HBW.out.trans (hB.mono HBW.out.size)) (BkQ.low hK)
            obtain ⟨h1, ⟨⟨x0, h2⟩, ⟨x1, h4⟩⟩, h3⟩ := hx
            have HX := hid h1
            clear h1 hK hB)))
      all_goals (
        go_wp2_with fail
        go_roundg 1
        case measure => omega
        case rel => exact ⟨3, by omega, by omega, by go_num, HX⟩)
    · have hst := stC (P 3).vol (P 3).val
      go_wp2_with fail
      refine opaqueR _ ?_
      intro W hW
      have hBW : Below wr.heap.size wr W.drew := by rw [hW]; exact ((Below.refl _ wr).alloc (Nat.le_refl _) _).drew
      have b1 : W.drew.heap[wr.heap.size]? = some (.cells #[ptr (q 3), cx (P 3)] 59 (0, 0)) := by rw [hW]; exact heap_alloc_new wr _
      have j0 := cellAt' b1 0
      have j1 := cellAt' b1 1
      simp at j0 j1
      have HBW := hid hBW
      clear b1 hBW hW
      go_region_law (first
        | (go_simp; go_at_call 17; (
            refine (HC.out 3 (by omega) _ ((HI.out.be).trans (HBW.out.mono HI.out.be.size))).mono ?_
            rintro e w2 ⟨q', rfl, hK, hB⟩
            have hx : Mq w ((w2.setCell ⟨w.heap.size, 6, none⟩ (ptr q')).setCell ⟨w.heap.size, 7, none⟩ (cx (P 3))) 4 P ∧ ((∃ x, w2.cell? ⟨w.heap.size, 6, none⟩ = some x) ∧ (∃ x, w2.cell? ⟨w.heap.size, 7, none⟩ = some x)) ∧ ∀ f, w2.frozen? ⟨w.heap.size, f, none⟩ = false := Mq.step (k := 3) HI.out (by omega) (HBW.out.trans (hB.mono HBW.out.size)) (BkQ.low hK)
            obtain ⟨h1, ⟨⟨x0, h2⟩, ⟨x1, h4⟩⟩, h3⟩ := hx
            have HX := hid h1
            clear h1 hK hB)))
      all_goals (
        go_wp2_with fail
        go_roundg 0
        case measure => omega
        case rel => exact ⟨4, by omega, by omega, by go_num, HX⟩)
    · go_wp2_with fail
      go_ret
      exact ⟨rfl, HI.out.all, HI.out.be⟩
end Go.Proofs.Ytdgllpfccdbdnaa

