/- Entries by value: the law's Fits. -/
import Derived.Test.YtmndjdaiailgmaaEnt4
namespace Go.Proofs.Ytmndjdaiailgmaa
set_option linter.unusedVariables false
open Go.RowKit
open Go.Lib (hid)

def fitsE (e : Ev) : Bool := decide (e.fp.n ≤ 80) && decide (e.xp.n ≤ 80) && decide (e.vp.n ≤ 80)
set_option maxHeartbeats 1200000 in
set_option maxRecDepth 100000 in
theorem cFits (e : Ev) (w : World) : Calls Try.prog 5 #[.agg e.arr] w fun x w' => x = .returned (.bool (fitsE e)) ∧ Below w.heap.size w w' := by
  have c11 := newE_cell w e 30 (j := 11) rfl
  have c14 := newE_cell w e 30 (j := 14) rfl
  have c18 := newE_cell w e 30 (j := 18) rfl
  have hb : Below w.heap.size w (w.alloc (.cells e.arr 30)) := (Below.refl _ w).alloc (Nat.le_refl _) _
  by_cases h1 : e.fp.n ≤ 80
  · by_cases h2 : e.xp.n ≤ 80
    · by_cases h3 : e.vp.n ≤ 80
      all_goals (
        go_enter Try.func5, Try.ntmps5
        go_wp2
        go_ret
        exact ⟨ret_bool (by unfold fitsE; simp [h1, h2, h3]; try omega), hb⟩)
    · go_enter Try.func5, Try.ntmps5
      go_wp2
      go_ret
      exact ⟨ret_bool (by unfold fitsE; simp [h1, h2]; try omega), hb⟩
  · go_enter Try.func5, Try.ntmps5
    go_wp2
    go_ret
    exact ⟨ret_bool (by unfold fitsE; simp [h1]; try omega), hb⟩
end Go.Proofs.Ytmndjdaiailgmaa
