/- What is told on a reader that is nil. -/
import Derived.Test.YtioajkblgcpfaaaOAlive
namespace Go.Proofs.Ytioajkblgcpfaaa
set_option linter.unusedVariables false
open Go.RowKit
open Go.Lib (hid)

set_option maxHeartbeats 1600000 in
set_option maxRecDepth 100000 in
theorem cCmd0 (w : World) : Calls Try.prog 16 #[.pointer none] w fun x w' => x = .returned (.agg #[.int .i64 0, .int .i64 0, .int .i64 0, .int .i64 0, .int .i64 0, .int .i64 0, .int .i64 0]) ∧ Below w.heap.size w w' := by
  have hR := fun (W : World) q (hq : q = W.heap.size) => cRight' (Sl.one' (w := W) (q := q) (T := 45) (c := ⟨0, 0, 0, 0, 0, 0, 0⟩) hq) (by simp)
  rw [show ([⟨0, 0, 0, 0, 0, 0, 0⟩] : List C7).all C7.ok = false from rfl] at hR
  go_enter Try.func16, Try.ntmps16
  go_wp2_with (first
  | (go_at_call 14; refine (cNum0 _).mono ?_; rintro e w1 ⟨rfl, rfl⟩)
  | (go_at_call 28; refine (hR _ _ (by simp)).mono ?_; rintro e w2 ⟨rfl, hB⟩; (
    have hz : w2.heap[w.heap.size]? = some zero7 := heapB ((Below.heap_alloc _ _ _ (by simp; omega)).trans ((Below.heap_alloc _ _ _ (by simp)).trans (heap_alloc_new w zero7))) hB (by simp; omega)
    have r0 : w2.cell? ⟨w.heap.size, 0, none⟩ = some (.int .i64 0) := (cellAt' hz 0).trans rfl
    have r1 : w2.cell? ⟨w.heap.size, 1, none⟩ = some (.int .i64 0) := (cellAt' hz 1).trans rfl
    have r2 : w2.cell? ⟨w.heap.size, 2, none⟩ = some (.int .i64 0) := (cellAt' hz 2).trans rfl
    have r3 : w2.cell? ⟨w.heap.size, 3, none⟩ = some (.int .i64 0) := (cellAt' hz 3).trans rfl
    have r4 : w2.cell? ⟨w.heap.size, 4, none⟩ = some (.int .i64 0) := (cellAt' hz 4).trans rfl
    have r5 : w2.cell? ⟨w.heap.size, 5, none⟩ = some (.int .i64 0) := (cellAt' hz 5).trans rfl
    have r6 : w2.cell? ⟨w.heap.size, 6, none⟩ = some (.int .i64 0) := (cellAt' hz 6).trans rfl
    have fr : ∀ f, w2.frozen? ⟨w.heap.size, f, none⟩ = false := fun f => frozenAt hz f
    have hsW : w.heap.size < w2.heap.size := (Array.getElem?_eq_some_iff.1 hz).1
    have HB := hid (((((Below.refl _ w).alloc (Nat.le_refl _) zero7).alloc (by simp) zero7).alloc (by simp; omega) zero7).trans (hB.mono (by simp; omega)))
    clear hz hB))
  | (go_at_call 37; refine (cFine0 _ _).mono ?_; rintro e w3 ⟨rfl, rfl⟩))
  refine bodyPost_ret (v := C7.v ⟨0, 0, 0, 0, 0, 0, 0⟩) (by simp [results, Try.results16, go_sem, r0, r1, r2, r3, r4, r5, r6]) rfl ⟨rfl, ?_⟩
  exact ((((((HB.out.setCell (Nat.le_refl _) _).setCell (Nat.le_refl _) _).setCell (Nat.le_refl _) _).setCell (Nat.le_refl _) _).setCell (Nat.le_refl _) _).setCell (Nat.le_refl _) _).setCell (Nat.le_refl _) _

set_option maxHeartbeats 1600000 in
set_option maxRecDepth 100000 in
theorem cCmds0 (w : World) : Calls Try.prog 19 #[.pointer none] w fun x w' => x = .returned (.slice none 0 0) ∧ w = w' := by
  go_enter Try.func19, Try.ntmps19
  go_wp2_with (first
  | (go_at_call 14; refine (cNum0 _).mono ?_; rintro e w1 ⟨rfl, rfl⟩)
  | (go_at_call 37; refine (cFine0 _ _).mono ?_; rintro e w3 ⟨rfl, rfl⟩))
  go_ret
  exact ⟨rfl, rfl⟩

theorem Sl.nil (w : World) : Sl w (.slice none 0 0) [] := (Own.nil w 0).sl
set_option maxHeartbeats 1600000 in
set_option maxRecDepth 100000 in
theorem cValue0 (w : World) : Calls Try.prog 22 #[.pointer none] w fun x w' => x = .returned (.agg #[.int .i64 0, .slice none 0 0]) ∧ Below w.heap.size w w' := by
  have hR := fun (W : World) => cSetRight (Sl.nil W) (by simp)
  rw [show setB [] = true from rfl] at hR
  go_enter Try.func22, Try.ntmps22
  go_wp2_with (first
  | (go_at_call 14; refine (cNum0 _).mono ?_; rintro e w1 ⟨rfl, rfl⟩)
  | (go_at_call 19; refine (cCmds0 _).mono ?_; rintro e w1 ⟨rfl, rfl⟩)
  | (go_at_call 32; refine (hR _).mono ?_; rintro e w2 ⟨rfl, hB⟩; (
    have hz : w2.heap[w.heap.size]? = some zeroV := heapB (heap_alloc_new w zeroV) hB (by simp)
    have r0 : w2.cell? ⟨w.heap.size, 0, none⟩ = some (.int .i64 0) := (cellAt' hz 0).trans rfl
    have r1 : w2.cell? ⟨w.heap.size, 1, none⟩ = some (.slice none 0 0) := (cellAt' hz 1).trans rfl
    have fr : ∀ f, w2.frozen? ⟨w.heap.size, f, none⟩ = false := fun f => frozenAt hz f
    have hsW : w.heap.size < w2.heap.size := (Array.getElem?_eq_some_iff.1 hz).1
    have HB := hid hB
    clear hz hB))
  | (go_at_call 37; refine (cFine0 _ _).mono ?_; rintro e w3 ⟨rfl, rfl⟩))
  refine bodyPost_ret (v := .agg #[.int .i64 0, .slice none 0 0]) (by simp [results, Try.results22, go_sem, r0, r1]) rfl ⟨rfl, ?_⟩
  exact ((((Below.refl _ w).alloc (Nat.le_refl _) _).trans (HB.out.mono (by simp))).setCell (Nat.le_refl _) _).setCell (Nat.le_refl _) _
end Go.Proofs.Ytioajkblgcpfaaa
