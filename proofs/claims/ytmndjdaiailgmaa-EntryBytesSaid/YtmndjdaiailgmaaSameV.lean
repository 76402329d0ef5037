/- The document's SameValue, of one value twice. -/
import Derived.Test.YtmndjdaiailgmaaSameR
namespace Go.Proofs.Ytmndjdaiailgmaa
set_option linter.unusedVariables false
open Go.RowKit
open Go.Lib (hid)

set_option maxHeartbeats 1600000 in
set_option maxRecDepth 100000 in
theorem rSameValue {v v' : Value} {cs : List C7} {w : World} (t : Int) (h : Sl w v cs) (h' : Sl w v' cs) (hl : cs.length ≤ 100000) : Calls Try.prog 36 #[.agg #[.int .i64 t, v], .agg #[.int .i64 t, v']] w fun e w' => e = .returned (.bool true) ∧ Below w.heap.size w w' := by
  have H := hid h
  have H' := hid h'
  obtain ⟨_, _, cap, a, rfl, _⟩ := h
  obtain ⟨_, _, cap', a', rfl, _⟩ := h'
  have hS := rSame (H.out.on (((Below.refl _ w).alloc (Nat.le_refl _) (.cells #[.int .i64 t, .slice a cs.length cap] 28)).alloc (by simp) (.cells #[.int .i64 t, .slice a' cs.length cap'] 28))) (H'.out.on (((Below.refl _ w).alloc (Nat.le_refl _) (.cells #[.int .i64 t, .slice a cs.length cap] 28)).alloc (by simp) (.cells #[.int .i64 t, .slice a' cs.length cap'] 28))) hl hl
  rw [show sameB cs cs = true from decide_eq_true rfl] at hS
  go_enter Try.func36, Try.ntmps36
  go_wp2_with (go_at_call 65; (
    refine hS.mono ?_
    rintro e w1 ⟨rfl, hB⟩
    have hs1 := hB.size
    have k0 : w1.cell? ⟨w.heap.size, 0, none⟩ = some (.int .i64 t) := (hB.cell (p := ⟨w.heap.size, 0, none⟩) (by simp; omega)).trans (by simp [go_sem])
    have k1 : w1.cell? ⟨w.heap.size + 1, 0, none⟩ = some (.int .i64 t) := (hB.cell (p := ⟨w.heap.size + 1, 0, none⟩) (by simp)).trans (by simp [go_sem])
    have HB := hid hB
    clear hB))
  go_ret
  exact ⟨rfl, (((Below.refl _ w).alloc (Nat.le_refl _) _).alloc (by simp) _).trans (HB.out.mono (by simp; omega))⟩
end Go.Proofs.Ytmndjdaiailgmaa
