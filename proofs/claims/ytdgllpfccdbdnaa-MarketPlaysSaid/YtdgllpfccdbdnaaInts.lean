/- The contracts of the functions of layer 2 that only compute with integers, the program's and the document's: both return one plain function of their arguments; the world is left alone. -/
import Derived.Test.YtdgllpfccdbdnaaRows
import Derived.WalkKit
import Derived.LoopTactic
import Derived.ProofKit
import Derived.Lib.Hide
namespace Go.Proofs.Ytdgllpfccdbdnaa
open Go.RowKit

def namedB (x : Int) : Bool := decide (16 ≤ x ∧ x < 4112 ∧ x % 16 ≤ 8)
def withinBC (x g : Int) : Bool := decide (0 ≤ x ∧ x ≤ g)
theorem named_true {x : Int} : namedB x = true ↔ 16 ≤ x ∧ x < 4112 ∧ x % 16 ≤ 8 := by unfold namedB; simp
theorem named_false {x : Int} : namedB x = false ↔ ¬ (16 ≤ x ∧ x < 4112 ∧ x % 16 ≤ 8) := by unfold namedB; simp
theorem within_true {x g : Int} : withinBC x g = true ↔ 0 ≤ x ∧ x ≤ g := by unfold withinBC; simp
theorem within_false {x g : Int} : withinBC x g = false ↔ ¬ (0 ≤ x ∧ x ≤ g) := by unfold withinBC; simp
theorem ret_intC {k : IntKind} {a b : Int} (h : a = b) : Ending.returned (.int k a) = .returned (.int k b) := by rw [h]
theorem ret_boolC {a b : Bool} (h : a = b) : Ending.returned (.bool a) = .returned (.bool b) := by rw [h]
abbrev two (a b : Int) : Value := .tuple #[.int .i64 a, .int .i64 b]
theorem ret_two {a b c d : Int} (h : a = c) (h' : b = d) : Ending.returned (.tuple #[.int .i64 a, .int .i64 b]) = .returned (two c d) := by rw [h, h']

theorem cIsName (x : Int) (w : World) : Calls Try.prog 46 #[.int .i64 x] w fun e w' => e = .returned (.bool (namedB x)) ∧ w = w' := by
  by_cases h0 : 16 ≤ x
  · by_cases h1 : x < 4112
    · by_cases h2 : x % 16 < 9
      · go_enter Try.func46, Try.ntmps46
        go_wp2
        go_ret
        exact ⟨ret_boolC (by unfold namedB; symm; simp; omega), rfl⟩
      · go_enter Try.func46, Try.ntmps46
        go_wp2
        go_ret
        exact ⟨ret_boolC (by unfold namedB; symm; simp; omega), rfl⟩
    · go_enter Try.func46, Try.ntmps46
      go_wp2
      go_ret
      exact ⟨ret_boolC (by unfold namedB; symm; simp; omega), rfl⟩
  · go_enter Try.func46, Try.ntmps46
    go_wp2
    go_ret
    exact ⟨ret_boolC (by unfold namedB; symm; simp; omega), rfl⟩

theorem rNamed (x : Int) (w : World) : Calls Try.prog 36 #[.int .i64 x] w fun e w' => e = .returned (.bool (namedB x)) ∧ w = w' := by
  by_cases h0 : 16 ≤ x
  · by_cases h1 : x < 4112
    · by_cases h2 : x % 16 ≤ 8
      · go_enter Try.func36, Try.ntmps36
        go_wp2
        go_ret
        exact ⟨ret_boolC (by unfold namedB; symm; simp; omega), rfl⟩
      · go_enter Try.func36, Try.ntmps36
        go_wp2
        go_ret
        exact ⟨ret_boolC (by unfold namedB; symm; simp; omega), rfl⟩
    · go_enter Try.func36, Try.ntmps36
      go_wp2
      go_ret
      exact ⟨ret_boolC (by unfold namedB; symm; simp; omega), rfl⟩
  · go_enter Try.func36, Try.ntmps36
    go_wp2
    go_ret
    exact ⟨ret_boolC (by unfold namedB; symm; simp; omega), rfl⟩

theorem cWithinC (x g : Int) (w : World) : Calls Try.prog 47 #[.int .i64 x, .int .i64 g] w fun e w' => e = .returned (.bool (withinBC x g)) ∧ w = w' := by
  by_cases h0 : 0 ≤ x
  · go_enter Try.func47, Try.ntmps47
    go_wp2
    go_ret
    exact ⟨ret_boolC (by unfold withinBC; symm; simp; omega), rfl⟩
  · go_enter Try.func47, Try.ntmps47
    go_wp2
    go_ret
    exact ⟨ret_boolC (by unfold withinBC; symm; simp; omega), rfl⟩

theorem rIn (x : Int) (w : World) : Calls Try.prog 37 #[.int .i64 x] w fun e w' => e = .returned (.bool (withinBC x 1048576)) ∧ w = w' := by
  by_cases h0 : 0 ≤ x
  · go_enter Try.func37, Try.ntmps37
    go_wp2
    go_ret
    exact ⟨ret_boolC (by unfold withinBC; symm; simp; omega), rfl⟩
  · go_enter Try.func37, Try.ntmps37
    go_wp2
    go_ret
    exact ⟨ret_boolC (by unfold withinBC; symm; simp; omega), rfl⟩

theorem cMost_yes (g : Int) (w : World) : Calls Try.prog 48 #[.bool true, .int .i64 g] w fun e w' => e = .returned (.int .i64 g) ∧ w = w' := by
  go_enter Try.func48, Try.ntmps48
  go_wp2
  go_ret
  exact ⟨rfl, rfl⟩
theorem cMost_no (g : Int) (w : World) : Calls Try.prog 48 #[.bool false, .int .i64 g] w fun e w' => e = .returned (.int .i64 0) ∧ w = w' := by
  go_enter Try.func48, Try.ntmps48
  go_wp2
  go_ret
  exact ⟨rfl, rfl⟩

end Go.Proofs.Ytdgllpfccdbdnaa
