/- The walk of the law BookFirst. -/
import Derived.Test.YtolbgmihphonbaaBFirst0
import Derived.Test.YtolbgmihphonbaaBFirst1
namespace Go.Proofs.Ytolbgmihphonbaa
set_option linter.unusedVariables false
open Go.RowKit
open Go.Lib (hid)

set_option maxHeartbeats 3200000 in
set_option maxRecDepth 100000 in
theorem wFirst {w : World} {v : Value} {xs : List Ak} (h : SlA w v xs) (o : Ak) : Calls Try.prog 4 #[v, o.v] w fun e w' => e = .returned (.bool true) ∧ Below w.heap.size w w' := by
  obtain ⟨ok, oi, os, op, oq⟩ := o
  by_cases h0 : ¬ 80 < xs.length ∧ (os = 0 ∨ os = 1)
  · obtain ⟨h80, rfl | rfl⟩ := h0
    · exact wFirst0 h h80 ok oi op oq
    · exact wFirst1 h h80 ok oi op oq
  · have hc : 80 < xs.length ∨ (¬ 80 < xs.length ∧ os < 0) ∨ (¬ 80 < xs.length ∧ ¬ os < 0 ∧ 1 < os) := by omega
    obtain ⟨a, n, cap, rfl, hn, _⟩ := h.shape
    rw [← hn] at hc
    have hb : Below w.heap.size w (w.alloc (.cells #[.int .u8 ok, .int .i64 oi, .int .i64 os, .int .i64 op, .int .i64 oq] 33)) := (Below.refl _ w).alloc (Nat.le_refl _) _
    have HB := hid hb
    clear h hn h0 hb
    rcases hc with hc | ⟨hc, hs⟩ | ⟨hc, hs, hs2⟩
    all_goals
      go_enter Try.func4, Try.ntmps4
      go_wp2_with fail
      go_at_call 5
      refine (cAlive _).mono ?_
      rintro e w1 ⟨rfl, hB1⟩
      have HB1 := hid hB1
      clear hB1
      go_wp2_with fail
      go_ret
      exact ⟨rfl, HB.out.trans (HB1.out.mono (by simp))⟩
end Go.Proofs.Ytolbgmihphonbaa
