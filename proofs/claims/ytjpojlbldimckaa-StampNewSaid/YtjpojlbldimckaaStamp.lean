/- The contracts of the document's own answers for quorums, and of the live question: what each returns, whatever its arguments; the world is left alone. -/
import Derived.Test.YtjpojlbldimckaaRows
import Derived.WalkKit
import Derived.LoopTactic
import Derived.ProofKit
namespace Go.Proofs.Ytjpojlbldimckaa
open Go.RowKit

theorem alive_any (w : World) : Calls Try.prog 8 #[] w fun e w' => e = .returned (.bool true) ∧ w = w' := by
  go_enter Try.func8, Try.ntmps8
  go_wp2
  go_ret
  exact ⟨rfl, rfl⟩

theorem ret_int {k : IntKind} {a b : Int} (h : a = b) : Ending.returned (.int k a) = .returned (.int k b) := by rw [h]

/-- The document's Classic: half, rounded down, and one. -/
theorem rClassic_yes (n : Int) (w : World) (h : 3 ≤ n) (h' : n ≤ 9) : Calls Try.prog 12 #[.int .i64 n] w fun e w' => e = .returned (.int .i64 (n / 2 + 1)) ∧ w = w' := by
  go_enter Try.func12, Try.ntmps12
  go_wp2
  go_loop [4] (fun i => ∃ k : Nat, 2 * k ≤ n + 2 ∧ i = .int .i64 k) (fun i => (n + 2 - 2 * intOf i).toNat)
  case atStart => exact ⟨0, by omega, rfl⟩
  case round =>
    obtain ⟨k, hk, rfl⟩ := hrel
    by_cases hlt : 2 * (k : Int) ≤ n
    · go_wp2
      go_round
      case rel => exact ⟨k + 1, by omega, by go_num⟩
      case measure => simp [intOf]; omega
    · go_wp2
      go_ret
      exact ⟨ret_int (by omega), rfl⟩

/-- The document's Fast: three quarters, rounded up. -/
theorem rFast_yes (n : Int) (w : World) (h : 3 ≤ n) (h' : n ≤ 9) : Calls Try.prog 14 #[.int .i64 n] w fun e w' => e = .returned (.int .i64 ((3 * n + 3) / 4)) ∧ w = w' := by
  go_enter Try.func14, Try.ntmps14
  go_wp2
  go_loop [4] (fun i => ∃ k : Nat, 4 * k ≤ 3 * n + 3 ∧ i = .int .i64 k) (fun i => (3 * n + 4 - 4 * intOf i).toNat)
  case atStart => exact ⟨0, by omega, rfl⟩
  case round =>
    obtain ⟨k, hk, rfl⟩ := hrel
    by_cases hlt : 4 * (k : Int) < 3 * n
    · go_wp2
      go_round
      case rel => exact ⟨k + 1, by omega, by go_num⟩
      case measure => simp [intOf]; omega
    · go_wp2
      go_ret
      exact ⟨ret_int (by omega), rfl⟩

/-- The program's Classic and Fast. -/
theorem sClassic_yes (n : Int) (w : World) (h : 3 ≤ n) (h' : n ≤ 9) : Calls Try.prog 11 #[.int .i64 n] w fun e w' => e = .returned (.int .i64 (n / 2 + 1)) ∧ w = w' := by
  go_enter Try.func11, Try.ntmps11
  go_wp2
  go_ret
  exact ⟨rfl, rfl⟩

theorem sFast_yes (n : Int) (w : World) (h : 3 ≤ n) (h' : n ≤ 9) : Calls Try.prog 13 #[.int .i64 n] w fun e w' => e = .returned (.int .i64 ((3 * n + 3) / 4)) ∧ w = w' := by
  go_enter Try.func13, Try.ntmps13
  go_wp2
  go_ret
  exact ⟨rfl, rfl⟩

/-- Need, the program's (15) and the document's (16): its formula; 0 of what may not be. -/
theorem sNeed_yes (n q : Int) (w : World) (h : 3 ≤ n) (h' : n ≤ 9) (h0 : 0 ≤ q) (h1 : q ≤ n) : Calls Try.prog 15 #[.int .i64 n, .int .i64 q] w fun e w' => e = .returned (.int .i64 ((3 * n + 3) / 4 - (n - q))) ∧ w = w' := by
  go_enter Try.func15, Try.ntmps15
  go_wp2_with (first | (go_at_call 13; refine (sFast_yes _ _ (by omega) (by omega)).mono ?_; rintro e w' ⟨rfl, rfl⟩) | go_in)
  go_ret
  exact ⟨rfl, rfl⟩

theorem rNeed_yes (n q : Int) (w : World) (h : 3 ≤ n) (h' : n ≤ 9) (h0 : 0 ≤ q) (h1 : q ≤ n) : Calls Try.prog 16 #[.int .i64 n, .int .i64 q] w fun e w' => e = .returned (.int .i64 ((3 * n + 3) / 4 - (n - q))) ∧ w = w' := by
  go_enter Try.func16, Try.ntmps16
  go_wp2_with (first | (go_at_call 14; refine (rFast_yes _ _ (by omega) (by omega)).mono ?_; rintro e w' ⟨rfl, rfl⟩) | go_in)
  go_ret
  exact ⟨rfl, rfl⟩

theorem sNeed_no (n q : Int) (w : World) (h : 3 ≤ n) (h' : n ≤ 9) (h0 : q < 0 ∨ n < q) : Calls Try.prog 15 #[.int .i64 n, .int .i64 q] w fun e w' => e = .returned (.int .i64 0) ∧ w = w' := by
  rcases h0 with h0 | h0
  · go_enter Try.func15, Try.ntmps15
    go_wp2
    go_ret
    exact ⟨rfl, rfl⟩
  · have h2 : ¬ q < 0 := by omega
    go_enter Try.func15, Try.ntmps15
    go_wp2
    go_ret
    exact ⟨rfl, rfl⟩

theorem rNeed_no (n q : Int) (w : World) (h : 3 ≤ n) (h' : n ≤ 9) (h0 : q < 0 ∨ n < q) : Calls Try.prog 16 #[.int .i64 n, .int .i64 q] w fun e w' => e = .returned (.int .i64 0) ∧ w = w' := by
  rcases h0 with h0 | h0
  · go_enter Try.func16, Try.ntmps16
    go_wp2
    go_ret
    exact ⟨rfl, rfl⟩
  · have h2 : ¬ q < 0 := by omega
    go_enter Try.func16, Try.ntmps16
    go_wp2
    go_ret
    exact ⟨rfl, rfl⟩

/-! Whatever the arguments: one function for the program's answer and the document's. -/
def rightB (n : Int) : Bool := decide (3 ≤ n ∧ n ≤ 9)
def clI (n : Int) : Int := if 3 ≤ n ∧ n ≤ 9 then n / 2 + 1 else 0
def faI (n : Int) : Int := if 3 ≤ n ∧ n ≤ 9 then (3 * n + 3) / 4 else 0
def neI (n q : Int) : Int := if 3 ≤ n ∧ n ≤ 9 ∧ 0 ≤ q ∧ q ≤ n then (3 * n + 3) / 4 - (n - q) else 0
theorem ret_bool' {a b : Bool} (h : a = b) : Ending.returned (.bool a) = .returned (.bool b) := by rw [h]

theorem sRight_any (n : Int) (w : World) : Calls Try.prog 9 #[.int .i64 n] w fun e w' => e = .returned (.bool (rightB n)) ∧ w = w' := by
  by_cases h0 : 3 ≤ n
  · by_cases h1 : n ≤ 9
    · go_enter Try.func9, Try.ntmps9
      go_wp2
      go_ret
      exact ⟨ret_bool' (by unfold rightB; symm; simp; omega), rfl⟩
    · go_enter Try.func9, Try.ntmps9
      go_wp2
      go_ret
      exact ⟨ret_bool' (by unfold rightB; symm; simp; omega), rfl⟩
  · go_enter Try.func9, Try.ntmps9
    go_wp2
    go_ret
    exact ⟨ret_bool' (by unfold rightB; symm; simp; omega), rfl⟩

theorem rRight_any (n : Int) (w : World) : Calls Try.prog 10 #[.int .i64 n] w fun e w' => e = .returned (.bool (rightB n)) ∧ w = w' := by
  by_cases h0 : 3 ≤ n
  · by_cases h1 : n ≤ 9
    · go_enter Try.func10, Try.ntmps10
      go_wp2
      go_ret
      exact ⟨ret_bool' (by unfold rightB; symm; simp; omega), rfl⟩
    · go_enter Try.func10, Try.ntmps10
      go_wp2
      go_ret
      exact ⟨ret_bool' (by unfold rightB; symm; simp; omega), rfl⟩
  · go_enter Try.func10, Try.ntmps10
    go_wp2
    go_ret
    exact ⟨ret_bool' (by unfold rightB; symm; simp; omega), rfl⟩

theorem right_yes {n : Int} (h : 3 ≤ n ∧ n ≤ 9) : rightB n = true := by unfold rightB; simpa using h
theorem right_no {n : Int} (h : ¬ (3 ≤ n ∧ n ≤ 9)) : rightB n = false := by unfold rightB; simpa using h

theorem sClassic_any (n : Int) (w : World) : Calls Try.prog 11 #[.int .i64 n] w fun e w' => e = .returned (.int .i64 (clI n)) ∧ w = w' := by
  by_cases h : 3 ≤ n ∧ n ≤ 9
  · refine (sClassic_yes n w h.1 h.2).mono ?_
    rintro e w' ⟨rfl, rfl⟩
    exact ⟨ret_int (by unfold clI; rw [if_pos h]), rfl⟩
  · have hr := right_no h
    go_enter Try.func11, Try.ntmps11
    go_wp2_with (go_at_call 9; refine (sRight_any _ _).mono ?_; rintro e w' ⟨rfl, rfl⟩)
    go_ret
    exact ⟨ret_int (by unfold clI; rw [if_neg h]), rfl⟩

theorem rClassic_any (n : Int) (w : World) : Calls Try.prog 12 #[.int .i64 n] w fun e w' => e = .returned (.int .i64 (clI n)) ∧ w = w' := by
  by_cases h : 3 ≤ n ∧ n ≤ 9
  · refine (rClassic_yes n w h.1 h.2).mono ?_
    rintro e w' ⟨rfl, rfl⟩
    exact ⟨ret_int (by unfold clI; rw [if_pos h]), rfl⟩
  · have hr := right_no h
    go_enter Try.func12, Try.ntmps12
    go_wp2_with (go_at_call 10; refine (rRight_any _ _).mono ?_; rintro e w' ⟨rfl, rfl⟩)
    go_ret
    exact ⟨ret_int (by unfold clI; rw [if_neg h]), rfl⟩

theorem sFast_any (n : Int) (w : World) : Calls Try.prog 13 #[.int .i64 n] w fun e w' => e = .returned (.int .i64 (faI n)) ∧ w = w' := by
  by_cases h : 3 ≤ n ∧ n ≤ 9
  · refine (sFast_yes n w h.1 h.2).mono ?_
    rintro e w' ⟨rfl, rfl⟩
    exact ⟨ret_int (by unfold faI; rw [if_pos h]), rfl⟩
  · have hr := right_no h
    go_enter Try.func13, Try.ntmps13
    go_wp2_with (go_at_call 9; refine (sRight_any _ _).mono ?_; rintro e w' ⟨rfl, rfl⟩)
    go_ret
    exact ⟨ret_int (by unfold faI; rw [if_neg h]), rfl⟩

theorem rFast_any (n : Int) (w : World) : Calls Try.prog 14 #[.int .i64 n] w fun e w' => e = .returned (.int .i64 (faI n)) ∧ w = w' := by
  by_cases h : 3 ≤ n ∧ n ≤ 9
  · refine (rFast_yes n w h.1 h.2).mono ?_
    rintro e w' ⟨rfl, rfl⟩
    exact ⟨ret_int (by unfold faI; rw [if_pos h]), rfl⟩
  · have hr := right_no h
    go_enter Try.func14, Try.ntmps14
    go_wp2_with (go_at_call 10; refine (rRight_any _ _).mono ?_; rintro e w' ⟨rfl, rfl⟩)
    go_ret
    exact ⟨ret_int (by unfold faI; rw [if_neg h]), rfl⟩

theorem sNeed_any (n q : Int) (w : World) : Calls Try.prog 15 #[.int .i64 n, .int .i64 q] w fun e w' => e = .returned (.int .i64 (neI n q)) ∧ w = w' := by
  by_cases h : 3 ≤ n ∧ n ≤ 9
  · by_cases h0 : q < 0 ∨ n < q
    · refine (sNeed_no n q w h.1 h.2 h0).mono ?_
      rintro e w' ⟨rfl, rfl⟩
      exact ⟨ret_int (by unfold neI; rw [if_neg (by omega)]), rfl⟩
    · refine (sNeed_yes n q w h.1 h.2 (by omega) (by omega)).mono ?_
      rintro e w' ⟨rfl, rfl⟩
      exact ⟨ret_int (by unfold neI; rw [if_pos (by omega)]), rfl⟩
  · have hr := right_no h
    go_enter Try.func15, Try.ntmps15
    go_wp2_with (go_at_call 9; refine (sRight_any _ _).mono ?_; rintro e w' ⟨rfl, rfl⟩)
    go_ret
    exact ⟨ret_int (by unfold neI; rw [if_neg (by omega)]), rfl⟩

theorem rNeed_any (n q : Int) (w : World) : Calls Try.prog 16 #[.int .i64 n, .int .i64 q] w fun e w' => e = .returned (.int .i64 (neI n q)) ∧ w = w' := by
  by_cases h : 3 ≤ n ∧ n ≤ 9
  · by_cases h0 : q < 0 ∨ n < q
    · refine (rNeed_no n q w h.1 h.2 h0).mono ?_
      rintro e w' ⟨rfl, rfl⟩
      exact ⟨ret_int (by unfold neI; rw [if_neg (by omega)]), rfl⟩
    · refine (rNeed_yes n q w h.1 h.2 (by omega) (by omega)).mono ?_
      rintro e w' ⟨rfl, rfl⟩
      exact ⟨ret_int (by unfold neI; rw [if_pos (by omega)]), rfl⟩
  · have hr := right_no h
    go_enter Try.func16, Try.ntmps16
    go_wp2_with (go_at_call 10; refine (rRight_any _ _).mono ?_; rintro e w' ⟨rfl, rfl⟩)
    go_ret
    exact ⟨ret_int (by unfold neI; rw [if_neg (by omega)]), rfl⟩
end Go.Proofs.Ytjpojlbldimckaa
