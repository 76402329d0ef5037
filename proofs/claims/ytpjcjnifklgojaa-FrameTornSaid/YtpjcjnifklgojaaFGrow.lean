/- Room for bytes: the library's Grow of nothing. -/
import Derived.Test.YtpjcjnifklgojaaFBase
import Derived.Lib.AppendZerosOnto
import Derived.Lib.AppendZeros
namespace Go.Proofs.Ytpjcjnifklgojaa
set_option linter.unusedVariables false
open Go.RowKit
open Go.Lib (hid)

set_option maxHeartbeats 1600000 in
set_option maxRecDepth 100000 in
theorem cGrow (n : Nat) (hn : 1 ≤ n) (hl : n ≤ 1000000) (w : World) : Calls Try.prog 21 #[.slice none 0 0, .int .i64 n] w fun x w' => ∃ g cap, x = .returned (.slice (some ⟨g, 0, none⟩) 0 cap) ∧ OwnB w' w.heap.size (.slice (some ⟨g, 0, none⟩) 0 cap) [] ∧ Below w.heap.size w w' := by
  obtain ⟨i0, hi, hz0, hz1, hz2⟩ := info_parts Try.infoB
  have hold : (Builtin.firstCells i0.size 0 (.slice none 0 0)).run Try.prog w.drew = .ok (#[] : Array Value) w.drew := run_firstCells_none w.drew i0.size 0 0 0
  have hrz : ∀ ty, (Builtin.append_ #[22, 3] ty #[.slice none 0 0, .int .i64 n]).run Try.prog w = .ok (.slice (some ⟨w.heap.size, 0, none⟩) n (grownCap w n 0 5)) (w.drew.alloc (.cells ((#[] : Array Value) ++ Builtin.zeroCells (Value.int .u8 0).cells n ++ Builtin.zeroCells (Value.int .u8 0).cells (grownCap w n 0 5 - n)) 5)) := fun ty => by
    have h := Lib.run_append_grow_zeros w 22 3 ty 5 i0 (.int .u8 0) .i64 .i64 Try.underlying22 Try.underlying3 hi hz0 none 0 0 [] hold n (by omega) (by omega) (by omega) (by omega) (by rw [hz2]; omega) (by
      rw [hz2]
      have := growslice_fits (need := 0 + n) (old := 0) (bytes := 1) (by omega) (by omega)
      exact this)
    rw [Nat.zero_add] at h
    exact h
  have hGn : n ≤ grownCap w n 0 5 := grownCap_ge w _ _ _
  have hG63 := grownCap_le_maxLen w n 0 5 (by unfold maxLen; omega)
  obtain ⟨G, hG⟩ : ∃ G, G = grownCap w n 0 5 := ⟨_, rfl⟩
  rw [← hG] at hrz hGn hG63
  have h0 : ¬ ((n : Int) < 0) := by omega
  have h1 : (0 : Int) < (n : Int) := by omega
  have hGi : G ≤ 9223372036854775807 := by unfold maxLen at hG63; omega
  clear hG hold hi hz0 hz1 hz2
  go_enter Try.func21, Try.ntmps21
  go_wp2_with (at_builtin; refine Lib.wpList_append_run _ rfl _ _ _ _ rfl _ _ rfl rfl _ _ (hrz _) ?_)
  all_goals (
    go_ret
    exact ⟨_, _, rfl, ⟨rfl, .inr ⟨w.heap.size, G, _, rfl, Nat.le_refl _, obDrew (heap_alloc_new w _), Nat.zero_le _, hG63, by simp [Builtin.zeroCells]; omega, by simp [octs]⟩⟩, belowDrew ((Below.refl _ w).alloc (Nat.le_refl _) _)⟩)
end Go.Proofs.Ytpjcjnifklgojaa
