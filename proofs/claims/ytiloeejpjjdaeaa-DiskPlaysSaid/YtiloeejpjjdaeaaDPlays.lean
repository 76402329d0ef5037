/- The walk of the law DiskPlays. -/
import Derived.Test.YtiloeejpjjdaeaaDSafe
namespace Go.Proofs.Ytiloeejpjjdaeaa
set_option linter.unusedVariables false
open Go.RowKit
open Go.Lib (hid)

set_option maxHeartbeats 1600000 in
set_option maxRecDepth 100000 in
theorem wPlays_long {w : World} {v : Value} {xs : List Av} (h : SlA w v xs) (hl : xs.length ≤ 9223372036854775807) (hbig : ∀ x ∈ xs, x.b.length ≤ 9223372036854775807) (room : Int) (hf : fitsA xs = false) : Calls Try.prog 3 #[.int .i64 room, v] w fun e w' => e = .returned (.bool true) ∧ Below w.heap.size w w' := by
  have HC := hid (cFits h hl hbig)
  rw [hf] at HC
  clear h hl hbig hf
  go_enter Try.func3, Try.ntmps3
  go_wp2_with fail
  go_at_call 5
  refine HC.out.mono ?_
  rintro e w1 ⟨rfl, rfl⟩
  go_wp2_with fail
  go_at_call 6
  refine (cAlive _).mono ?_
  rintro e w1 ⟨rfl, hB⟩
  go_wp2_with fail
  go_ret
  exact ⟨rfl, hB⟩

theorem own_chg {B N C : Nat} {w w' : World} {v : Value} {l : List UInt8} (h : OwnB w C v l) (hc : Chg B N w w') (hN : N ≤ C) : OwnB w' C v l := by
  refine ⟨h.1, ?_⟩
  rcases h.2 with h2 | ⟨g, cap, cur, rfl, h1, hg, r⟩
  · exact .inl h2
  · exact .inr ⟨g, cap, cur, rfl, h1, hc.ob hg (by omega), r⟩
theorem sl_chg {B N : Nat} {w w' : World} {v : Value} {l : List UInt8} (h : SlB w v l) (hc : Chg B N w w') (hN : ∀ k, v.ownBlock = some k → N ≤ k) : SlB w' v l := h.same hc.size fun k hk hlt => hc.block k hlt (.inr (hN k hk))

set_option maxHeartbeats 1600000 in
set_option maxRecDepth 100000 in
theorem wPlays_no {w : World} {v : Value} {xs : List Av} (h : SlA w v xs) (hl : xs.length ≤ 9223372036854775807) (hbig : ∀ x ∈ xs, x.b.length ≤ 9223372036854775807) (room : Int) (hf : fitsA xs = true) (hr : roomB room = false) : Calls Try.prog 3 #[.int .i64 room, v] w fun e w' => e = .returned (.bool true) ∧ Below w.heap.size w w' := by
  have HC := hid (cFits h hl hbig)
  rw [hf] at HC
  have HR := hid hr
  have hq := hid (rRight room w)
  rw [hr] at hq
  clear h hl hbig hf hr
  go_enter Try.func3, Try.ntmps3
  go_wp2_with fail
  go_at_call 5
  refine HC.out.mono ?_
  rintro e w1 ⟨rfl, rfl⟩
  go_wp2_with fail
  go_at_call 7
  refine (cNew_no room HR.out w).mono ?_
  rintro e w1 ⟨rfl, rfl⟩
  go_wp2_with fail
  go_at_call 8
  refine hq.out.mono ?_
  rintro e w1 ⟨rfl, rfl⟩
  go_wp2_with (first
    | (go_at_call 9; refine (cSync0 w).mono ?_; rintro e w1 ⟨rfl, rfl⟩)
    | (go_at_call 10; refine (cCrash0 3 w).mono ?_; rintro e w1 ⟨rfl, rfl⟩)
    | (go_at_call 11; refine (cAppend0 _ w).mono ?_; rintro e w1 ⟨rfl, rfl⟩)
    | (go_at_call 12; refine (cCut0 0 w).mono ?_; rintro e w1 ⟨rfl, rfl⟩)
    | (go_at_call 13; refine (cBytes0 w).mono ?_; rintro e w1 ⟨rfl, rfl⟩)
    | (go_at_call 14; refine (cSynced0 w).mono ?_; rintro e w1 ⟨rfl, rfl⟩)
    | (go_at_call 15; refine (cLeft0 w).mono ?_; rintro e w1 ⟨rfl, rfl⟩)
    | (go_at_call 16; refine (cClone0 w).mono ?_; rintro e w1 ⟨rfl, rfl⟩)
    | (go_at_call 6; refine (cAlive _).mono ?_; rintro e w1 ⟨rfl, hB⟩))
  go_ret
  exact ⟨rfl, hB⟩
end Go.Proofs.Ytiloeejpjjdaeaa
