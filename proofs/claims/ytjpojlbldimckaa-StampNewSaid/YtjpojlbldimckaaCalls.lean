/- The contracts of Make, Next, Valid, Count, Node, Owner and Above, the program's and the document's: both return one and the same function of the arguments, whatever these are; the world is left alone. -/
import Derived.Test.YtjpojlbldimckaaStamp
namespace Go.Proofs.Ytjpojlbldimckaa
open Go.RowKit

def validB (t : Int) : Bool := decide (16 ≤ t ∧ t < 1048576 ∧ t % 16 ≤ 8)
def countI (t : Int) : Int := if 16 ≤ t ∧ t < 1048576 ∧ t % 16 ≤ 8 then t / 16 else 0
def nodeI (t : Int) : Int := if 16 ≤ t ∧ t < 1048576 ∧ t % 16 ≤ 8 then t % 16 else -1
def mkV (c n : Int) : Int := if n < 0 ∨ 8 < n ∨ c < 1 ∨ 65535 < c then 0 else 16 * c + n
def mkE (c n : Int) : Int := if n < 0 ∨ 8 < n ∨ c < 1 then 1 else if 65535 < c then 8 else 0
abbrev two (a b : Int) : Value := .tuple #[.int .i64 a, .int .i64 b]

theorem ret_two {a b c d : Int} (h : a = c) (h' : b = d) : Ending.returned (.tuple #[.int .i64 a, .int .i64 b]) = .returned (two c d) := by rw [h, h']
theorem ret_bool {a b : Bool} (h : a = b) : Ending.returned (.bool a) = .returned (.bool b) := by rw [h]

theorem sMake_any (c n : Int) (w : World) : Calls Try.prog 17 #[.int .i64 c, .int .i64 n] w fun e w' => e = .returned (two (mkV c n) (mkE c n)) ∧ w = w' := by
  by_cases h0 : n < 0
  · go_enter Try.func17, Try.ntmps17
    go_wp2
    go_ret2
    exact ⟨ret_two (by unfold mkV; rw [if_pos (by omega)]) (by unfold mkE; rw [if_pos (by omega)]), rfl⟩
  by_cases h1 : 9 ≤ n
  · go_enter Try.func17, Try.ntmps17
    go_wp2
    go_ret2
    exact ⟨ret_two (by unfold mkV; rw [if_pos (by omega)]) (by unfold mkE; rw [if_pos (by omega)]), rfl⟩
  by_cases h2 : c < 1
  · go_enter Try.func17, Try.ntmps17
    go_wp2
    go_ret2
    exact ⟨ret_two (by unfold mkV; rw [if_pos (by omega)]) (by unfold mkE; rw [if_pos (by omega)]), rfl⟩
  by_cases h3 : 65536 ≤ c
  · go_enter Try.func17, Try.ntmps17
    go_wp2
    go_ret2
    exact ⟨ret_two (by unfold mkV; rw [if_pos (by omega)]) (by unfold mkE; rw [if_neg (by omega), if_pos (by omega)]), rfl⟩
  · go_enter Try.func17, Try.ntmps17
    go_wp2
    go_ret2
    exact ⟨ret_two (by unfold mkV; rw [if_neg (by omega)]) (by unfold mkE; rw [if_neg (by omega), if_neg (by omega)]), rfl⟩

theorem rMake_any (c n : Int) (w : World) : Calls Try.prog 18 #[.int .i64 c, .int .i64 n] w fun e w' => e = .returned (two (mkV c n) (mkE c n)) ∧ w = w' := by
  by_cases h0 : n < 0
  · go_enter Try.func18, Try.ntmps18
    go_wp2
    go_ret2
    exact ⟨ret_two (by unfold mkV; rw [if_pos (by omega)]) (by unfold mkE; rw [if_pos (by omega)]), rfl⟩
  by_cases h1 : 8 < n
  · go_enter Try.func18, Try.ntmps18
    go_wp2
    go_ret2
    exact ⟨ret_two (by unfold mkV; rw [if_pos (by omega)]) (by unfold mkE; rw [if_pos (by omega)]), rfl⟩
  by_cases h2 : c < 1
  · go_enter Try.func18, Try.ntmps18
    go_wp2
    go_ret2
    exact ⟨ret_two (by unfold mkV; rw [if_pos (by omega)]) (by unfold mkE; rw [if_pos (by omega)]), rfl⟩
  by_cases h3 : 65535 < c
  · go_enter Try.func18, Try.ntmps18
    go_wp2
    go_ret2
    exact ⟨ret_two (by unfold mkV; rw [if_pos (by omega)]) (by unfold mkE; rw [if_neg (by omega), if_pos (by omega)]), rfl⟩
  · go_enter Try.func18, Try.ntmps18
    go_wp2
    go_ret2
    exact ⟨ret_two (by unfold mkV; rw [if_neg (by omega)]) (by unfold mkE; rw [if_neg (by omega), if_neg (by omega)]), rfl⟩

theorem sValid_any (t : Int) (w : World) : Calls Try.prog 21 #[.int .i64 t] w fun e w' => e = .returned (.bool (validB t)) ∧ w = w' := by
  by_cases h0 : 16 ≤ t
  · by_cases h1 : t < 1048576
    · by_cases h2 : t % 16 < 9
      · go_enter Try.func21, Try.ntmps21
        go_wp2
        go_ret
        exact ⟨ret_bool (by unfold validB; symm; simp; omega), rfl⟩
      · go_enter Try.func21, Try.ntmps21
        go_wp2
        go_ret
        exact ⟨ret_bool (by unfold validB; symm; simp; omega), rfl⟩
    · go_enter Try.func21, Try.ntmps21
      go_wp2
      go_ret
      exact ⟨ret_bool (by unfold validB; symm; simp; omega), rfl⟩
  · go_enter Try.func21, Try.ntmps21
    go_wp2
    go_ret
    exact ⟨ret_bool (by unfold validB; symm; simp; omega), rfl⟩

theorem rValid_any (t : Int) (w : World) : Calls Try.prog 22 #[.int .i64 t] w fun e w' => e = .returned (.bool (validB t)) ∧ w = w' := by
  by_cases h0 : 16 ≤ t
  · by_cases h1 : t < 1048576
    · by_cases h2 : t % 16 ≤ 8
      · go_enter Try.func22, Try.ntmps22
        go_wp2
        go_ret
        exact ⟨ret_bool (by unfold validB; symm; simp; omega), rfl⟩
      · go_enter Try.func22, Try.ntmps22
        go_wp2
        go_ret
        exact ⟨ret_bool (by unfold validB; symm; simp; omega), rfl⟩
    · go_enter Try.func22, Try.ntmps22
      go_wp2
      go_ret
      exact ⟨ret_bool (by unfold validB; symm; simp; omega), rfl⟩
  · go_enter Try.func22, Try.ntmps22
    go_wp2
    go_ret
    exact ⟨ret_bool (by unfold validB; symm; simp; omega), rfl⟩

theorem valid_true {t : Int} : validB t = true ↔ 16 ≤ t ∧ t < 1048576 ∧ t % 16 ≤ 8 := by unfold validB; simp
theorem valid_false {t : Int} : validB t = false ↔ ¬ (16 ≤ t ∧ t < 1048576 ∧ t % 16 ≤ 8) := by unfold validB; simp

theorem sCount_any (t : Int) (w : World) : Calls Try.prog 23 #[.int .i64 t] w fun e w' => e = .returned (.int .i64 (countI t)) ∧ w = w' := by
  rcases hv : validB t with _ | _
  · go_enter Try.func23, Try.ntmps23
    go_wp2_with (go_at_call 21; refine (sValid_any _ _).mono ?_; rintro e w' ⟨rfl, rfl⟩)
    go_ret
    exact ⟨ret_int (by rw [valid_false] at hv; unfold countI; rw [if_neg hv]), rfl⟩
  · have ht := valid_true.mp hv
    obtain ⟨h1, h2, h3⟩ := ht
    go_enter Try.func23, Try.ntmps23
    go_wp2_with (go_at_call 21; refine (sValid_any _ _).mono ?_; rintro e w' ⟨rfl, rfl⟩)
    go_ret
    exact ⟨ret_int (by unfold countI; rw [if_pos ⟨h1, h2, h3⟩]), rfl⟩

theorem rCount_any (t : Int) (w : World) : Calls Try.prog 24 #[.int .i64 t] w fun e w' => e = .returned (.int .i64 (countI t)) ∧ w = w' := by
  rcases hv : validB t with _ | _
  · go_enter Try.func24, Try.ntmps24
    go_wp2_with (go_at_call 22; refine (rValid_any _ _).mono ?_; rintro e w' ⟨rfl, rfl⟩)
    go_ret
    exact ⟨ret_int (by rw [valid_false] at hv; unfold countI; rw [if_neg hv]), rfl⟩
  · have ht := valid_true.mp hv
    obtain ⟨h1, h2, h3⟩ := ht
    go_enter Try.func24, Try.ntmps24
    go_wp2_with (go_at_call 22; refine (rValid_any _ _).mono ?_; rintro e w' ⟨rfl, rfl⟩)
    go_ret
    exact ⟨ret_int (by unfold countI; rw [if_pos ⟨h1, h2, h3⟩]), rfl⟩

theorem sNode_any (t : Int) (w : World) : Calls Try.prog 25 #[.int .i64 t] w fun e w' => e = .returned (.int .i64 (nodeI t)) ∧ w = w' := by
  rcases hv : validB t with _ | _
  · go_enter Try.func25, Try.ntmps25
    go_wp2_with (go_at_call 21; refine (sValid_any _ _).mono ?_; rintro e w' ⟨rfl, rfl⟩)
    go_ret
    exact ⟨ret_int (by rw [valid_false] at hv; unfold nodeI; rw [if_neg hv]), rfl⟩
  · have ht := valid_true.mp hv
    obtain ⟨h1, h2, h3⟩ := ht
    go_enter Try.func25, Try.ntmps25
    go_wp2_with (go_at_call 21; refine (sValid_any _ _).mono ?_; rintro e w' ⟨rfl, rfl⟩)
    go_ret
    exact ⟨ret_int (by unfold nodeI; rw [if_pos ⟨h1, h2, h3⟩]), rfl⟩

theorem rNode_any (t : Int) (w : World) : Calls Try.prog 26 #[.int .i64 t] w fun e w' => e = .returned (.int .i64 (nodeI t)) ∧ w = w' := by
  rcases hv : validB t with _ | _
  · go_enter Try.func26, Try.ntmps26
    go_wp2_with (go_at_call 22; refine (rValid_any _ _).mono ?_; rintro e w' ⟨rfl, rfl⟩)
    go_ret
    exact ⟨ret_int (by rw [valid_false] at hv; unfold nodeI; rw [if_neg hv]), rfl⟩
  · have ht := valid_true.mp hv
    obtain ⟨h1, h2, h3⟩ := ht
    go_enter Try.func26, Try.ntmps26
    go_wp2_with (go_at_call 22; refine (rValid_any _ _).mono ?_; rintro e w' ⟨rfl, rfl⟩)
    go_ret
    exact ⟨ret_int (by unfold nodeI; rw [if_pos ⟨h1, h2, h3⟩]), rfl⟩

theorem count_bd (t : Int) : 0 ≤ countI t ∧ countI t ≤ 65535 := by unfold countI; split <;> omega

theorem sNext_any (t n : Int) (w : World) : Calls Try.prog 19 #[.int .i64 t, .int .i64 n] w fun e w' => e = .returned (two (mkV (countI t + 1) n) (mkE (countI t + 1) n)) ∧ w = w' := by
  obtain ⟨h0, h1⟩ := count_bd t
  go_enter Try.func19, Try.ntmps19
  go_wp2_with (first | (go_at_call 23; refine (sCount_any _ _).mono ?_; rintro e w' ⟨rfl, rfl⟩) | (go_at_call 17; refine (sMake_any _ _ _).mono ?_; rintro e w' ⟨rfl, rfl⟩))
  go_ret2
  exact ⟨rfl, rfl⟩

theorem rNext_any (t n : Int) (w : World) : Calls Try.prog 20 #[.int .i64 t, .int .i64 n] w fun e w' => e = .returned (two (mkV (countI t + 1) n) (mkE (countI t + 1) n)) ∧ w = w' := by
  obtain ⟨h0, h1⟩ := count_bd t
  go_enter Try.func20, Try.ntmps20
  go_wp2_with (first | (go_at_call 24; refine (rCount_any _ _).mono ?_; rintro e w' ⟨rfl, rfl⟩) | (go_at_call 18; refine (rMake_any _ _ _).mono ?_; rintro e w' ⟨rfl, rfl⟩))
  go_ret2
  exact ⟨rfl, rfl⟩

/-! Owner and Above. -/
def ownerI (b n : Int) : Int := if 3 ≤ n ∧ n ≤ 9 ∧ 2 ≤ b ∧ b ≤ 1048576 then (b - 2) % n else -1
def leastI (b : Int) : Int := if b + 1 < 2 then 2 else b + 1
def ownI (b p n : Int) : Int := leastI b + (p - (leastI b - 2) % n + n) % n
def abV (b p n : Int) : Int := if n < 3 ∨ 9 < n ∨ p < 0 ∨ n ≤ p ∨ 1048576 ≤ b ∨ 1048576 < ownI b p n then 0 else ownI b p n
def abE (b p n : Int) : Int := if n < 3 ∨ 9 < n ∨ p < 0 ∨ n ≤ p then 1 else if 1048576 ≤ b ∨ 1048576 < ownI b p n then 8 else 0

theorem sOwner_any (b n : Int) (w : World) : Calls Try.prog 29 #[.int .i64 b, .int .i64 n] w fun e w' => e = .returned (.int .i64 (ownerI b n)) ∧ w = w' := by
  by_cases h0 : n < 3
  · go_enter Try.func29, Try.ntmps29
    go_wp2
    go_ret
    exact ⟨ret_int (by unfold ownerI; rw [if_neg (by omega)]), rfl⟩
  by_cases h1 : 9 < n
  · go_enter Try.func29, Try.ntmps29
    go_wp2
    go_ret
    exact ⟨ret_int (by unfold ownerI; rw [if_neg (by omega)]), rfl⟩
  by_cases h2 : b < 2
  · go_enter Try.func29, Try.ntmps29
    go_wp2
    go_ret
    exact ⟨ret_int (by unfold ownerI; rw [if_neg (by omega)]), rfl⟩
  by_cases h3 : 1048576 < b
  · go_enter Try.func29, Try.ntmps29
    go_wp2
    go_ret
    exact ⟨ret_int (by unfold ownerI; rw [if_neg (by omega)]), rfl⟩
  · go_enter Try.func29, Try.ntmps29
    go_wp2
    go_ret
    exact ⟨ret_int (by unfold ownerI; rw [if_pos (by omega)]), rfl⟩

theorem rOwner_any (b n : Int) (w : World) : Calls Try.prog 30 #[.int .i64 b, .int .i64 n] w fun e w' => e = .returned (.int .i64 (ownerI b n)) ∧ w = w' := by
  by_cases h0 : n < 3
  · go_enter Try.func30, Try.ntmps30
    go_wp2
    go_ret
    exact ⟨ret_int (by unfold ownerI; rw [if_neg (by omega)]), rfl⟩
  by_cases h1 : 9 < n
  · go_enter Try.func30, Try.ntmps30
    go_wp2
    go_ret
    exact ⟨ret_int (by unfold ownerI; rw [if_neg (by omega)]), rfl⟩
  by_cases h2 : b < 2
  · go_enter Try.func30, Try.ntmps30
    go_wp2
    go_ret
    exact ⟨ret_int (by unfold ownerI; rw [if_neg (by omega)]), rfl⟩
  by_cases h3 : 1048576 < b
  · go_enter Try.func30, Try.ntmps30
    go_wp2
    go_ret
    exact ⟨ret_int (by unfold ownerI; rw [if_neg (by omega)]), rfl⟩
  · go_enter Try.func30, Try.ntmps30
    go_wp2
    go_ret
    exact ⟨ret_int (by unfold ownerI; rw [if_pos (by omega)]), rfl⟩

theorem least_bd (b : Int) (h : b < 1048576) : 2 ≤ leastI b ∧ leastI b ≤ 1048576 ∧ b < leastI b := by unfold leastI; split <;> omega

theorem mod_bd (x n : Int) (h : 3 ≤ n) : 0 ≤ x % n ∧ x % n < n := ⟨Int.emod_nonneg _ (by omega), Int.emod_lt_of_pos _ (by omega)⟩

theorem own_bd (b p n : Int) (h : 3 ≤ n) : leastI b ≤ ownI b p n ∧ ownI b p n < leastI b + n := by
  have := mod_bd (p - (leastI b - 2) % n + n) n h
  unfold ownI; omega

theorem n_cases (n : Int) (h : 3 ≤ n) (h' : n ≤ 9) : n = 3 ∨ n = 4 ∨ n = 5 ∨ n = 6 ∨ n = 7 ∨ n = 8 ∨ n = 9 := by omega

/-- Between the least ballot and the replica's own none is its own. -/
theorem own_first (b p n x : Int) (h : 3 ≤ n) (h' : n ≤ 9) (_hp : 0 ≤ p) (_hq : p < n) (h1 : leastI b ≤ x) (h2 : x < ownI b p n) : (x - 2) % n ≠ p := by
  unfold ownI at h2
  generalize leastI b = l at *
  rcases n_cases n h h' with rfl | rfl | rfl | rfl | rfl | rfl | rfl <;> omega

theorem own_own (b p n : Int) (h : 3 ≤ n) (h' : n ≤ 9) (hp : 0 ≤ p) (hq : p < n) : (ownI b p n - 2) % n = p := by
  unfold ownI
  generalize leastI b = l at *
  rcases n_cases n h h' with rfl | rfl | rfl | rfl | rfl | rfl | rfl <;> omega
end Go.Proofs.Ytjpojlbldimckaa
