/- The contracts of the functions of layer 2 that only compute with integers, the program's and the document's: both return one plain function of their arguments; the world is left alone. -/
import Derived.Test.YtmndjdaiailgmaaRows
import Derived.WalkKit
import Derived.LoopTactic
import Derived.ProofKit
import Derived.Lib.Hide
namespace Go.Proofs.Ytmndjdaiailgmaa
open Go.RowKit

def namedB (x : Int) : Bool := decide (16 ≤ x ∧ x < 4112 ∧ x % 16 ≤ 8)
def withinB (x g : Int) : Bool := decide (0 ≤ x ∧ x ≤ g)
theorem named_true {x : Int} : namedB x = true ↔ 16 ≤ x ∧ x < 4112 ∧ x % 16 ≤ 8 := by unfold namedB; simp
theorem named_false {x : Int} : namedB x = false ↔ ¬ (16 ≤ x ∧ x < 4112 ∧ x % 16 ≤ 8) := by unfold namedB; simp
theorem within_true {x g : Int} : withinB x g = true ↔ 0 ≤ x ∧ x ≤ g := by unfold withinB; simp
theorem within_false {x g : Int} : withinB x g = false ↔ ¬ (0 ≤ x ∧ x ≤ g) := by unfold withinB; simp
theorem ret_int {k : IntKind} {a b : Int} (h : a = b) : Ending.returned (.int k a) = .returned (.int k b) := by rw [h]
theorem ret_bool {a b : Bool} (h : a = b) : Ending.returned (.bool a) = .returned (.bool b) := by rw [h]
abbrev two (a b : Int) : Value := .tuple #[.int .i64 a, .int .i64 b]
theorem ret_two {a b c d : Int} (h : a = c) (h' : b = d) : Ending.returned (.tuple #[.int .i64 a, .int .i64 b]) = .returned (two c d) := by rw [h, h']

theorem cIsName (x : Int) (w : World) : Calls Try.prog 83 #[.int .i64 x] w fun e w' => e = .returned (.bool (namedB x)) ∧ w = w' := by
  by_cases h0 : 16 ≤ x
  · by_cases h1 : x < 4112
    · by_cases h2 : x % 16 < 9
      · go_enter Try.func83, Try.ntmps83
        go_wp2
        go_ret
        exact ⟨ret_bool (by unfold namedB; symm; simp; omega), rfl⟩
      · go_enter Try.func83, Try.ntmps83
        go_wp2
        go_ret
        exact ⟨ret_bool (by unfold namedB; symm; simp; omega), rfl⟩
    · go_enter Try.func83, Try.ntmps83
      go_wp2
      go_ret
      exact ⟨ret_bool (by unfold namedB; symm; simp; omega), rfl⟩
  · go_enter Try.func83, Try.ntmps83
    go_wp2
    go_ret
    exact ⟨ret_bool (by unfold namedB; symm; simp; omega), rfl⟩

theorem rNamed (x : Int) (w : World) : Calls Try.prog 70 #[.int .i64 x] w fun e w' => e = .returned (.bool (namedB x)) ∧ w = w' := by
  by_cases h0 : 16 ≤ x
  · by_cases h1 : x < 4112
    · by_cases h2 : x % 16 ≤ 8
      · go_enter Try.func70, Try.ntmps70
        go_wp2
        go_ret
        exact ⟨ret_bool (by unfold namedB; symm; simp; omega), rfl⟩
      · go_enter Try.func70, Try.ntmps70
        go_wp2
        go_ret
        exact ⟨ret_bool (by unfold namedB; symm; simp; omega), rfl⟩
    · go_enter Try.func70, Try.ntmps70
      go_wp2
      go_ret
      exact ⟨ret_bool (by unfold namedB; symm; simp; omega), rfl⟩
  · go_enter Try.func70, Try.ntmps70
    go_wp2
    go_ret
    exact ⟨ret_bool (by unfold namedB; symm; simp; omega), rfl⟩

theorem cWithin (x g : Int) (w : World) : Calls Try.prog 84 #[.int .i64 x, .int .i64 g] w fun e w' => e = .returned (.bool (withinB x g)) ∧ w = w' := by
  by_cases h0 : 0 ≤ x
  · go_enter Try.func84, Try.ntmps84
    go_wp2
    go_ret
    exact ⟨ret_bool (by unfold withinB; symm; simp; omega), rfl⟩
  · go_enter Try.func84, Try.ntmps84
    go_wp2
    go_ret
    exact ⟨ret_bool (by unfold withinB; symm; simp; omega), rfl⟩

theorem rIn (x : Int) (w : World) : Calls Try.prog 71 #[.int .i64 x] w fun e w' => e = .returned (.bool (withinB x 1048576)) ∧ w = w' := by
  by_cases h0 : 0 ≤ x
  · go_enter Try.func71, Try.ntmps71
    go_wp2
    go_ret
    exact ⟨ret_bool (by unfold withinB; symm; simp; omega), rfl⟩
  · go_enter Try.func71, Try.ntmps71
    go_wp2
    go_ret
    exact ⟨ret_bool (by unfold withinB; symm; simp; omega), rfl⟩

theorem cMost_yes (g : Int) (w : World) : Calls Try.prog 85 #[.bool true, .int .i64 g] w fun e w' => e = .returned (.int .i64 g) ∧ w = w' := by
  go_enter Try.func85, Try.ntmps85
  go_wp2
  go_ret
  exact ⟨rfl, rfl⟩
theorem cMost_no (g : Int) (w : World) : Calls Try.prog 85 #[.bool false, .int .i64 g] w fun e w' => e = .returned (.int .i64 0) ∧ w = w' := by
  go_enter Try.func85, Try.ntmps85
  go_wp2
  go_ret
  exact ⟨rfl, rfl⟩

end Go.Proofs.Ytmndjdaiailgmaa
