import Derived.Test.YtogoibigabpkhaaGreatRows
import Derived.WalkKit
import Derived.LoopTactic
import Derived.ProofKit
import Derived.Lib.Hide
/- The contracts of the functions of layer 2 that only compute with integers, the program's and the document's: both return one plain function of their arguments; the world is left alone. -/
namespace Go.Proofs.YtogoibigabpkhaaGreat
open Go.RowKit

def namedB (x : Int) : Bool := decide (16 ≤ x ∧ x < 4112 ∧ x % 16 ≤ 8)
def withinB (x g : Int) : Bool := decide (0 ≤ x ∧ x ≤ g)
theorem named_true {x : Int} : namedB x = true ↔ 16 ≤ x ∧ x < 4112 ∧ x % 16 ≤ 8 := by unfold namedB; simp
theorem named_false {x : Int} : namedB x = false ↔ ¬ (16 ≤ x ∧ x < 4112 ∧ x % 16 ≤ 8) := by unfold namedB; simp
theorem within_true {x g : Int} : withinB x g = true ↔ 0 ≤ x ∧ x ≤ g := by unfold withinB; simp
theorem within_false {x g : Int} : withinB x g = false ↔ ¬ (0 ≤ x ∧ x ≤ g) := by unfold withinB; simp
theorem ret_int {k : IntKind} {a b : Int} (h : a = b) : Ending.returned (.int k a) = .returned (.int k b) := by rw [h]
theorem ret_bool {a b : Bool} (h : a = b) : Ending.returned (.bool a) = .returned (.bool b) := by rw [h]
abbrev two (a b : Int) : Value := .tuple #[.int .i64 a, .int .i64 b]
theorem ret_two {a b c d : Int} (h : a = c) (h' : b = d) : Ending.returned (.tuple #[.int .i64 a, .int .i64 b]) = .returned (two c d) := by rw [h, h']

theorem cIsName (x : Int) (w : World) : Calls Tryz.prog 112 #[.int .i64 x] w fun e w' => e = .returned (.bool (namedB x)) ∧ w = w' := by
  by_cases h0 : 16 ≤ x
  · by_cases h1 : x < 4112
    · by_cases h2 : x % 16 < 9
      · go_enter Tryz.func112, Tryz.ntmps112
        go_wp2
        go_ret
        exact ⟨ret_bool (by unfold namedB; symm; simp; omega), rfl⟩
      · go_enter Tryz.func112, Tryz.ntmps112
        go_wp2
        go_ret
        exact ⟨ret_bool (by unfold namedB; symm; simp; omega), rfl⟩
    · go_enter Tryz.func112, Tryz.ntmps112
      go_wp2
      go_ret
      exact ⟨ret_bool (by unfold namedB; symm; simp; omega), rfl⟩
  · go_enter Tryz.func112, Tryz.ntmps112
    go_wp2
    go_ret
    exact ⟨ret_bool (by unfold namedB; symm; simp; omega), rfl⟩

theorem rNamed (x : Int) (w : World) : Calls Tryz.prog 99 #[.int .i64 x] w fun e w' => e = .returned (.bool (namedB x)) ∧ w = w' := by
  by_cases h0 : 16 ≤ x
  · by_cases h1 : x < 4112
    · by_cases h2 : x % 16 ≤ 8
      · go_enter Tryz.func99, Tryz.ntmps99
        go_wp2
        go_ret
        exact ⟨ret_bool (by unfold namedB; symm; simp; omega), rfl⟩
      · go_enter Tryz.func99, Tryz.ntmps99
        go_wp2
        go_ret
        exact ⟨ret_bool (by unfold namedB; symm; simp; omega), rfl⟩
    · go_enter Tryz.func99, Tryz.ntmps99
      go_wp2
      go_ret
      exact ⟨ret_bool (by unfold namedB; symm; simp; omega), rfl⟩
  · go_enter Tryz.func99, Tryz.ntmps99
    go_wp2
    go_ret
    exact ⟨ret_bool (by unfold namedB; symm; simp; omega), rfl⟩

theorem cWithin (x g : Int) (w : World) : Calls Tryz.prog 113 #[.int .i64 x, .int .i64 g] w fun e w' => e = .returned (.bool (withinB x g)) ∧ w = w' := by
  by_cases h0 : 0 ≤ x
  · go_enter Tryz.func113, Tryz.ntmps113
    go_wp2
    go_ret
    exact ⟨ret_bool (by unfold withinB; symm; simp; omega), rfl⟩
  · go_enter Tryz.func113, Tryz.ntmps113
    go_wp2
    go_ret
    exact ⟨ret_bool (by unfold withinB; symm; simp; omega), rfl⟩

theorem rIn (x : Int) (w : World) : Calls Tryz.prog 100 #[.int .i64 x] w fun e w' => e = .returned (.bool (withinB x 1048576)) ∧ w = w' := by
  by_cases h0 : 0 ≤ x
  · go_enter Tryz.func100, Tryz.ntmps100
    go_wp2
    go_ret
    exact ⟨ret_bool (by unfold withinB; symm; simp; omega), rfl⟩
  · go_enter Tryz.func100, Tryz.ntmps100
    go_wp2
    go_ret
    exact ⟨ret_bool (by unfold withinB; symm; simp; omega), rfl⟩

theorem cMost_yes (g : Int) (w : World) : Calls Tryz.prog 114 #[.bool true, .int .i64 g] w fun e w' => e = .returned (.int .i64 g) ∧ w = w' := by
  go_enter Tryz.func114, Tryz.ntmps114
  go_wp2
  go_ret
  exact ⟨rfl, rfl⟩
theorem cMost_no (g : Int) (w : World) : Calls Tryz.prog 114 #[.bool false, .int .i64 g] w fun e w' => e = .returned (.int .i64 0) ∧ w = w' := by
  go_enter Tryz.func114, Tryz.ntmps114
  go_wp2
  go_ret
  exact ⟨rfl, rfl⟩

end Go.Proofs.YtogoibigabpkhaaGreat
/- The contract of partsOf: what commands of a kind have; the world has new blocks at most. -/
namespace Go.Proofs.YtogoibigabpkhaaGreat
open Go.RowKit

abbrev partsV (a b c d ok : Bool) : Value := .tuple #[.agg #[.bool a, .bool b, .bool c, .bool d], .bool ok]
theorem bcell {B : Nat} {W w1 : World} (hb : Below B W w1) : (∀ b o, b < B → w1.cell? ⟨b, o, none⟩ = W.cell? ⟨b, o, none⟩) ∧ (∀ b o, b < B → w1.frozen? ⟨b, o, none⟩ = W.frozen? ⟨b, o, none⟩) :=
  ⟨fun b o h => hb.cell (p := ⟨b, o, none⟩) h, fun b o h => hb.frozen (p := ⟨b, o, none⟩) h⟩
theorem below_two (w : World) (o p : Obj) : Below w.heap.size w ((w.alloc o).alloc p) := ((Below.refl _ _).alloc (Nat.le_refl _) _).alloc (by simp) _

theorem cParts0 (w : World) : Calls Tryz.prog 111 #[.int .i64 0] w fun e w' => e = .returned (partsV false true true true true) ∧ Below w.heap.size w w' := by
  go_enter Tryz.func111, Tryz.ntmps111
  go_wp2
  exact bodyPost_ret (v := partsV false true true true true) (by simp [results, Tryz.results111, go_sem]) rfl ⟨rfl, below_two _ _ _⟩
theorem cParts1 (w : World) : Calls Tryz.prog 111 #[.int .i64 1] w fun e w' => e = .returned (partsV true false false false true) ∧ Below w.heap.size w w' := by
  go_enter Tryz.func111, Tryz.ntmps111
  go_wp2
  exact bodyPost_ret (v := partsV true false false false true) (by simp [results, Tryz.results111, go_sem]) rfl ⟨rfl, below_two _ _ _⟩
theorem cParts2 (w : World) : Calls Tryz.prog 111 #[.int .i64 2] w fun e w' => e = .returned (partsV true false false true true) ∧ Below w.heap.size w w' := by
  go_enter Tryz.func111, Tryz.ntmps111
  go_wp2
  exact bodyPost_ret (v := partsV true false false true true) (by simp [results, Tryz.results111, go_sem]) rfl ⟨rfl, below_two _ _ _⟩
theorem cParts_no (k : Int) (h0 : k ≠ 0) (h1 : k ≠ 1) (h2 : k ≠ 2) (w : World) : Calls Tryz.prog 111 #[.int .i64 k] w fun e w' => e = .returned (partsV false false false false false) ∧ Below w.heap.size w w' := by
  go_enter Tryz.func111, Tryz.ntmps111
  go_wp2
  exact bodyPost_ret (v := partsV false false false false false) (by simp [results, Tryz.results111, go_sem]) rfl ⟨rfl, below_two _ _ _⟩
end Go.Proofs.YtogoibigabpkhaaGreat
