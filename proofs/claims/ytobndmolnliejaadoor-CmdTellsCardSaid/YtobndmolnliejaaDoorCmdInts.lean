/- The contracts of the functions of layer 2 that only compute with integers, the program's and the document's: both return one plain function of their arguments; the world is left alone. -/
import Derived.Test.YtobndmolnliejaaDoorRows
import Derived.WalkKit
import Derived.LoopTactic
import Derived.ProofKit
import Derived.Lib.Hide
namespace Go.Proofs.YtobndmolnliejaaDoor
open Go.RowKit

def namedB (x : Int) : Bool := decide (16 ≤ x ∧ x < 4112 ∧ x % 16 ≤ 8)
def withinB (x g : Int) : Bool := decide (0 ≤ x ∧ x ≤ g)
theorem named_true {x : Int} : namedB x = true ↔ 16 ≤ x ∧ x < 4112 ∧ x % 16 ≤ 8 := by unfold namedB; simp
theorem named_false {x : Int} : namedB x = false ↔ ¬ (16 ≤ x ∧ x < 4112 ∧ x % 16 ≤ 8) := by unfold namedB; simp
theorem within_true {x g : Int} : withinB x g = true ↔ 0 ≤ x ∧ x ≤ g := by unfold withinB; simp
theorem within_false {x g : Int} : withinB x g = false ↔ ¬ (0 ≤ x ∧ x ≤ g) := by unfold withinB; simp
theorem ret_int {k : IntKind} {a b : Int} (h : a = b) : Ending.returned (.int k a) = .returned (.int k b) := by rw [h]
theorem ret_bool {a b : Bool} (h : a = b) : Ending.returned (.bool a) = .returned (.bool b) := by rw [h]
abbrev two (a b : Int) : Value := .tuple #[.int .i64 a, .int .i64 b]
theorem ret_two {a b c d : Int} (h : a = c) (h' : b = d) : Ending.returned (.tuple #[.int .i64 a, .int .i64 b]) = .returned (two c d) := by rw [h, h']

theorem cIsName (x : Int) (w : World) : Calls Tryd.prog 18 #[.int .i64 x] w fun e w' => e = .returned (.bool (namedB x)) ∧ w = w' := by
  by_cases h0 : 16 ≤ x
  · by_cases h1 : x < 4112
    · by_cases h2 : x % 16 < 9
      · go_enter Tryd.func18, Tryd.ntmps18
        go_wp2
        go_ret
        exact ⟨ret_bool (by unfold namedB; symm; simp; omega), rfl⟩
      · go_enter Tryd.func18, Tryd.ntmps18
        go_wp2
        go_ret
        exact ⟨ret_bool (by unfold namedB; symm; simp; omega), rfl⟩
    · go_enter Tryd.func18, Tryd.ntmps18
      go_wp2
      go_ret
      exact ⟨ret_bool (by unfold namedB; symm; simp; omega), rfl⟩
  · go_enter Tryd.func18, Tryd.ntmps18
    go_wp2
    go_ret
    exact ⟨ret_bool (by unfold namedB; symm; simp; omega), rfl⟩

theorem rNamed (x : Int) (w : World) : Calls Tryd.prog 9 #[.int .i64 x] w fun e w' => e = .returned (.bool (namedB x)) ∧ w = w' := by
  by_cases h0 : 16 ≤ x
  · by_cases h1 : x < 4112
    · by_cases h2 : x % 16 ≤ 8
      · go_enter Tryd.func9, Tryd.ntmps9
        go_wp2
        go_ret
        exact ⟨ret_bool (by unfold namedB; symm; simp; omega), rfl⟩
      · go_enter Tryd.func9, Tryd.ntmps9
        go_wp2
        go_ret
        exact ⟨ret_bool (by unfold namedB; symm; simp; omega), rfl⟩
    · go_enter Tryd.func9, Tryd.ntmps9
      go_wp2
      go_ret
      exact ⟨ret_bool (by unfold namedB; symm; simp; omega), rfl⟩
  · go_enter Tryd.func9, Tryd.ntmps9
    go_wp2
    go_ret
    exact ⟨ret_bool (by unfold namedB; symm; simp; omega), rfl⟩

theorem cWithin (x g : Int) (w : World) : Calls Tryd.prog 33 #[.int .i64 x, .int .i64 g] w fun e w' => e = .returned (.bool (withinB x g)) ∧ w = w' := by
  by_cases h0 : 0 ≤ x
  · go_enter Tryd.func33, Tryd.ntmps33
    go_wp2
    go_ret
    exact ⟨ret_bool (by unfold withinB; symm; simp; omega), rfl⟩
  · go_enter Tryd.func33, Tryd.ntmps33
    go_wp2
    go_ret
    exact ⟨ret_bool (by unfold withinB; symm; simp; omega), rfl⟩

theorem rIn (x : Int) (w : World) : Calls Tryd.prog 25 #[.int .i64 x] w fun e w' => e = .returned (.bool (withinB x 1048576)) ∧ w = w' := by
  by_cases h0 : 0 ≤ x
  · go_enter Tryd.func25, Tryd.ntmps25
    go_wp2
    go_ret
    exact ⟨ret_bool (by unfold withinB; symm; simp; omega), rfl⟩
  · go_enter Tryd.func25, Tryd.ntmps25
    go_wp2
    go_ret
    exact ⟨ret_bool (by unfold withinB; symm; simp; omega), rfl⟩

theorem cMost_yes (g : Int) (w : World) : Calls Tryd.prog 34 #[.bool true, .int .i64 g] w fun e w' => e = .returned (.int .i64 g) ∧ w = w' := by
  go_enter Tryd.func34, Tryd.ntmps34
  go_wp2
  go_ret
  exact ⟨rfl, rfl⟩
theorem cMost_no (g : Int) (w : World) : Calls Tryd.prog 34 #[.bool false, .int .i64 g] w fun e w' => e = .returned (.int .i64 0) ∧ w = w' := by
  go_enter Tryd.func34, Tryd.ntmps34
  go_wp2
  go_ret
  exact ⟨rfl, rfl⟩

def seqI (x : Int) : Int := if 16 ≤ x ∧ x < 4112 ∧ x % 16 ≤ 8 then x / 16 else 0
def homeI (x : Int) : Int := if 16 ≤ x ∧ x < 4112 ∧ x % 16 ≤ 8 then x % 16 else -1
def nameV (s h : Int) : Int := if 1 ≤ s ∧ s ≤ 256 ∧ 0 ≤ h ∧ h ≤ 8 then 16 * s + h else 0
def nameE (s h : Int) : Int := if 1 ≤ s ∧ s ≤ 256 ∧ 0 ≤ h ∧ h ≤ 8 then 0 else 1

theorem cSeq (x : Int) (w : World) : Calls Tryd.prog 7 #[.int .i64 x] w fun e w' => e = .returned (.int .i64 (seqI x)) ∧ w = w' := by
  rcases hv : namedB x with _ | _
  · go_enter Tryd.func7, Tryd.ntmps7
    go_wp2_with (go_at_call 18; refine (cIsName _ _).mono ?_; rintro e w' ⟨rfl, rfl⟩)
    go_ret
    exact ⟨ret_int (by rw [named_false] at hv; unfold seqI; rw [if_neg hv]), rfl⟩
  · obtain ⟨h1, h2, h3⟩ := named_true.mp hv
    go_enter Tryd.func7, Tryd.ntmps7
    go_wp2_with (go_at_call 18; refine (cIsName _ _).mono ?_; rintro e w' ⟨rfl, rfl⟩)
    go_ret
    exact ⟨ret_int (by unfold seqI; rw [if_pos ⟨h1, h2, h3⟩]), rfl⟩

theorem cHome (x : Int) (w : World) : Calls Tryd.prog 8 #[.int .i64 x] w fun e w' => e = .returned (.int .i64 (homeI x)) ∧ w = w' := by
  rcases hv : namedB x with _ | _
  · go_enter Tryd.func8, Tryd.ntmps8
    go_wp2_with (go_at_call 18; refine (cIsName _ _).mono ?_; rintro e w' ⟨rfl, rfl⟩)
    go_ret
    exact ⟨ret_int (by rw [named_false] at hv; unfold homeI; rw [if_neg hv]), rfl⟩
  · obtain ⟨h1, h2, h3⟩ := named_true.mp hv
    go_enter Tryd.func8, Tryd.ntmps8
    go_wp2_with (go_at_call 18; refine (cIsName _ _).mono ?_; rintro e w' ⟨rfl, rfl⟩)
    go_ret
    exact ⟨ret_int (by unfold homeI; rw [if_pos ⟨h1, h2, h3⟩]), rfl⟩

theorem cName (s h : Int) (w : World) : Calls Tryd.prog 6 #[.int .i64 s, .int .i64 h] w fun e w' => e = .returned (two (nameV s h) (nameE s h)) ∧ w = w' := by
  by_cases h0 : s < 1
  · go_enter Tryd.func6, Tryd.ntmps6
    go_wp2
    go_ret2
    exact ⟨ret_two (by unfold nameV; rw [if_neg (by omega)]) (by unfold nameE; rw [if_neg (by omega)]), rfl⟩
  by_cases h1 : 256 < s
  · go_enter Tryd.func6, Tryd.ntmps6
    go_wp2
    go_ret2
    exact ⟨ret_two (by unfold nameV; rw [if_neg (by omega)]) (by unfold nameE; rw [if_neg (by omega)]), rfl⟩
  by_cases h2 : h < 0
  · go_enter Tryd.func6, Tryd.ntmps6
    go_wp2
    go_ret2
    exact ⟨ret_two (by unfold nameV; rw [if_neg (by omega)]) (by unfold nameE; rw [if_neg (by omega)]), rfl⟩
  by_cases h3 : 9 ≤ h
  · go_enter Tryd.func6, Tryd.ntmps6
    go_wp2
    go_ret2
    exact ⟨ret_two (by unfold nameV; rw [if_neg (by omega)]) (by unfold nameE; rw [if_neg (by omega)]), rfl⟩
  · go_enter Tryd.func6, Tryd.ntmps6
    go_wp2
    go_ret2
    exact ⟨ret_two (by unfold nameV; rw [if_pos (by omega)]) (by unfold nameE; rw [if_pos (by omega)]), rfl⟩
end Go.Proofs.YtobndmolnliejaaDoor
