/- The contracts of Above, the program's and the document's: both return one and the same function of the arguments. -/
import Derived.Test.YtjpojlbldimckaaCalls
import Derived.Lib.Hide
import Derived.Outline
namespace Go.Proofs.Ytjpojlbldimckaa
open Go.RowKit

theorem sAbove_any (b p n : Int) (w : World) (hb0 : -9223372036854775808 ≤ b) : Calls Try.prog 27 #[.int .i64 b, .int .i64 p, .int .i64 n] w fun e w' => e = .returned (two (abV b p n) (abE b p n)) ∧ w = w' := by
  by_cases h0 : n < 3
  · go_enter Try.func27, Try.ntmps27
    go_wp2
    go_ret2
    exact ⟨ret_two (by unfold abV; rw [if_pos (by omega)]) (by unfold abE; rw [if_pos (by omega)]), rfl⟩
  by_cases h1 : 9 < n
  · go_enter Try.func27, Try.ntmps27
    go_wp2
    go_ret2
    exact ⟨ret_two (by unfold abV; rw [if_pos (by omega)]) (by unfold abE; rw [if_pos (by omega)]), rfl⟩
  by_cases h2 : p < 0
  · go_enter Try.func27, Try.ntmps27
    go_wp2
    go_ret2
    exact ⟨ret_two (by unfold abV; rw [if_pos (by omega)]) (by unfold abE; rw [if_pos (by omega)]), rfl⟩
  by_cases h3 : n ≤ p
  · go_enter Try.func27, Try.ntmps27
    go_wp2
    go_ret2
    exact ⟨ret_two (by unfold abV; rw [if_pos (by omega)]) (by unfold abE; rw [if_pos (by omega)]), rfl⟩
  by_cases h4 : 1048576 ≤ b
  · go_enter Try.func27, Try.ntmps27
    go_wp2
    go_ret2
    exact ⟨ret_two (by unfold abV; rw [if_pos (by omega)]) (by unfold abE; rw [if_neg (by omega), if_pos (by omega)]), rfl⟩
  by_cases h5 : b + 1 < 2
  · rcases n_cases n (by omega) (by omega) with rfl | rfl | rfl | rfl | rfl | rfl | rfl
    all_goals
      go_enter Try.func27, Try.ntmps27
      go_wp2
      all_goals
        go_ret2
        exact ⟨ret_two (by unfold abV ownI leastI; rw [if_pos h5]; split <;> omega) (by unfold abE ownI leastI; rw [if_pos h5]; rw [if_neg (by omega)]; split <;> omega), rfl⟩
  · rcases n_cases n (by omega) (by omega) with rfl | rfl | rfl | rfl | rfl | rfl | rfl
    all_goals
      go_enter Try.func27, Try.ntmps27
      go_wp2
      all_goals
        go_ret2
        exact ⟨ret_two (by unfold abV ownI leastI; rw [if_neg (Int.not_lt.mpr h5)]; split <;> omega) (by unfold abE ownI leastI; rw [if_neg (Int.not_lt.mpr h5)]; rw [if_neg (by omega)]; split <;> omega), rfl⟩

theorem rOwner_in (x n : Int) (w : World) (h : 3 ≤ n) (h' : n ≤ 9) (h2 : 2 ≤ x) (h3 : x ≤ 1048576) : Calls Try.prog 30 #[.int .i64 x, .int .i64 n] w fun e w' => e = .returned (.int .i64 ((x - 2) % n)) ∧ w = w' := by
  refine (rOwner_any x n w).mono ?_
  rintro e w' ⟨rfl, rfl⟩
  exact ⟨ret_int (by unfold ownerI; rw [if_pos ⟨h, h', h2, h3⟩]), rfl⟩

theorem abV_over (b p n : Int) (h : 1048576 < ownI b p n) : abV b p n = 0 := by unfold abV; rw [if_pos (by omega)]
theorem abE_over (b p n : Int) (h0 : 3 ≤ n) (h1 : n ≤ 9) (h2 : 0 ≤ p) (h3 : p < n) (h : 1048576 < ownI b p n) : abE b p n = 8 := by unfold abE; rw [if_neg (by omega), if_pos (by omega)]
theorem abV_in (b p n : Int) (h0 : 3 ≤ n) (h1 : n ≤ 9) (h2 : 0 ≤ p) (h3 : p < n) (hb : b < 1048576) (h : ownI b p n ≤ 1048576) : abV b p n = ownI b p n := by unfold abV; rw [if_neg (by omega)]
theorem abE_in (b p n : Int) (h0 : 3 ≤ n) (h1 : n ≤ 9) (h2 : 0 ≤ p) (h3 : p < n) (hb : b < 1048576) (h : ownI b p n ≤ 1048576) : abE b p n = 0 := by unfold abE; rw [if_neg (by omega), if_neg (by omega)]

/-- The document's Above, where there is such a replica: it looks at one ballot after the other. -/
theorem rAbove_in (b p n : Int) (w : World) (hb0 : -9223372036854775808 ≤ b) (h : 3 ≤ n) (h' : n ≤ 9) (h2 : 0 ≤ p) (h3 : p < n) (h4 : b < 1048576) : Calls Try.prog 28 #[.int .i64 b, .int .i64 p, .int .i64 n] w fun e w' => e = .returned (two (abV b p n) (abE b p n)) ∧ w = w' := by
  have hl := least_bd b h4
  have ho := own_bd b p n h
  have h5 : b + 1 < 2 ∨ 2 ≤ b + 1 := by omega
  rcases h5 with h5 | h5
  all_goals
   go_enter Try.func28, Try.ntmps28
   go_wp2
   go_loop [9] (fun i => ∃ x : Int, leastI b ≤ x ∧ x ≤ ownI b p n ∧ x ≤ 1048576 ∧ i = .int .i64 x) (fun i => (ownI b p n - intOf i).toNat)
   case atStart => exact ⟨leastI b, by omega, by omega, by omega, by unfold leastI; first | rw [if_pos h5] | rw [if_neg (Int.not_lt.mpr h5)]⟩
   case round =>
     obtain ⟨x, hx0, hx1, hx2, rfl⟩ := hrel
     by_cases hx : x < ownI b p n
     · have hne := own_first b p n x h h' h2 h3 hx0 hx
       by_cases hx3 : x + 1 ≤ 1048576
       · go_wp2_with (go_at_call 30; refine (rOwner_in _ _ _ h h' (by omega) (by omega)).mono ?_; rintro e w' ⟨rfl, rfl⟩)
         go_round
         case rel => exact ⟨x + 1, by omega, by omega, by omega, rfl⟩
         case measure => simp [intOf]; omega
       · go_wp2_with (go_at_call 30; refine (rOwner_in _ _ _ h h' (by omega) (by omega)).mono ?_; rintro e w' ⟨rfl, rfl⟩)
         go_ret2
         exact ⟨ret_two (abV_over b p n (by omega)).symm (abE_over b p n h h' h2 h3 (by omega)).symm, rfl⟩
     · have hxe : ownI b p n = x := by omega
       have heq := own_own b p n h h' h2 h3
       rw [hxe] at heq
       have Hxe := Lib.hid hxe
       clear hxe
       go_wp2_with (go_at_call 30; refine (rOwner_in _ _ _ h h' (by omega) (by omega)).mono ?_; rintro e w' ⟨rfl, rfl⟩)
       go_ret2
       exact ⟨ret_two (by rw [abV_in b p n h h' h2 h3 h4 (by rw [Hxe.out]; omega)]; exact Hxe.out.symm) (abE_in b p n h h' h2 h3 h4 (by rw [Hxe.out]; omega)).symm, rfl⟩

theorem rAbove_any (b p n : Int) (w : World) (hb0 : -9223372036854775808 ≤ b) : Calls Try.prog 28 #[.int .i64 b, .int .i64 p, .int .i64 n] w fun e w' => e = .returned (two (abV b p n) (abE b p n)) ∧ w = w' := by
  by_cases h0 : n < 3
  · go_enter Try.func28, Try.ntmps28
    go_wp2
    go_ret2
    exact ⟨ret_two (by unfold abV; rw [if_pos (by omega)]) (by unfold abE; rw [if_pos (by omega)]), rfl⟩
  by_cases h1 : 9 < n
  · go_enter Try.func28, Try.ntmps28
    go_wp2
    go_ret2
    exact ⟨ret_two (by unfold abV; rw [if_pos (by omega)]) (by unfold abE; rw [if_pos (by omega)]), rfl⟩
  by_cases h2 : p < 0
  · go_enter Try.func28, Try.ntmps28
    go_wp2
    go_ret2
    exact ⟨ret_two (by unfold abV; rw [if_pos (by omega)]) (by unfold abE; rw [if_pos (by omega)]), rfl⟩
  by_cases h3 : n ≤ p
  · go_enter Try.func28, Try.ntmps28
    go_wp2
    go_ret2
    exact ⟨ret_two (by unfold abV; rw [if_pos (by omega)]) (by unfold abE; rw [if_pos (by omega)]), rfl⟩
  by_cases h4 : 1048576 ≤ b
  · go_enter Try.func28, Try.ntmps28
    go_wp2
    go_ret2
    exact ⟨ret_two (by unfold abV; rw [if_pos (by omega)]) (by unfold abE; rw [if_neg (by omega), if_pos (by omega)]), rfl⟩
  exact rAbove_in b p n w hb0 (by omega) (by omega) (by omega) (by omega) (by omega)
end Go.Proofs.Ytjpojlbldimckaa
