/- The program's small functions on orders. -/
import Derived.Test.YtdgllpfccdbdnaaBGrow
namespace Go.Proofs.Ytdgllpfccdbdnaa
set_option linter.unusedVariables false
open Go.RowKit
open Go.Lib (hid)

/-- A pointer to a block. -/
abbrev ptr (p : Nat) : Value := .pointer (some ⟨p, 0, none⟩)
def sideB (s : Int) : Bool := decide (0 ≤ s ∧ s < 2)
def withinB (x g : Int) : Bool := decide (1 ≤ x ∧ x ≤ g)
def mayB (o : Od) : Bool := sideB o.s && decide (1 ≤ o.i) && withinB o.p 1048576 && withinB o.n 1048576
theorem may_iff {o : Od} : mayB o = true ↔ (o.s = 0 ∨ o.s = 1) ∧ 1 ≤ o.i ∧ 1 ≤ o.p ∧ o.p ≤ 1048576 ∧ 1 ≤ o.n ∧ o.n ≤ 1048576 := by
  unfold mayB sideB withinB; simp; omega

set_option maxRecDepth 100000 in
theorem cIsSide (s : Int) (w : World) : Calls Try.prog 43 #[.int .i64 s] w fun e w' => e = .returned (.bool (sideB s)) ∧ w = w' := by
  by_cases h0 : 0 ≤ s
  · go_enter Try.func43, Try.ntmps43
    go_wp2
    go_ret
    exact ⟨ret_bool (by unfold sideB; simp [h0]), rfl⟩
  · go_enter Try.func43, Try.ntmps43
    go_wp2
    go_ret
    exact ⟨ret_bool (by unfold sideB; symm; simp; omega), rfl⟩
set_option maxRecDepth 100000 in
theorem cWithin (x g : Int) (w : World) : Calls Try.prog 67 #[.int .i64 x, .int .i64 g] w fun e w' => e = .returned (.bool (withinB x g)) ∧ w = w' := by
  by_cases h0 : 1 ≤ x
  · go_enter Try.func67, Try.ntmps67
    go_wp2
    go_ret
    exact ⟨ret_bool (by unfold withinB; simp [h0]), rfl⟩
  · go_enter Try.func67, Try.ntmps67
    go_wp2
    go_ret
    exact ⟨ret_bool (by unfold withinB; symm; simp; omega), rfl⟩
set_option maxRecDepth 100000 in
theorem cOther (s : Int) (hs : s = 0 ∨ s = 1) (w : World) : Calls Try.prog 51 #[.int .i64 s] w fun e w' => e = .returned (.int .i64 (1 - s)) ∧ w = w' := by
  rcases hs with rfl | rfl
  · go_enter Try.func51, Try.ntmps51
    go_wp2
    go_ret
    exact ⟨rfl, rfl⟩
  · go_enter Try.func51, Try.ntmps51
    go_wp2
    go_ret
    exact ⟨rfl, rfl⟩
set_option maxHeartbeats 800000 in
set_option maxRecDepth 100000 in
theorem cMayBe (o : Od) (w : World) : Calls Try.prog 59 #[o.v] w fun e w' => e = .returned (.bool (mayB o)) ∧ Below w.heap.size w w' := by
  have hb := (Below.refl _ w).alloc (Nat.le_refl _) (.cells #[.int .i64 o.i, .int .i64 o.s, .int .i64 o.p, .int .i64 o.n] 52)
  have hm : mayB o = (((sideB o.s && decide (1 ≤ o.i)) && withinB o.p 1048576) && withinB o.n 1048576) := rfl
  rw [hm]
  clear hm
  by_cases h0 : 1 ≤ o.i
  all_goals rcases h1 : sideB o.s with _ | _ <;> rcases h2 : withinB o.p 1048576 with _ | _ <;> rcases h3 : withinB o.n 1048576 with _ | _
  all_goals
    go_enter Try.func59, Try.ntmps59
    go_wp2_with (first
      | (go_at_call 43; refine (cIsSide _ _).mono ?_; rintro e w1 ⟨rfl, rfl⟩)
      | (go_at_call 67; refine (cWithin _ _ _).mono ?_; rintro e w1 ⟨rfl, rfl⟩))
    go_ret
    exact ⟨ret_bool (by simp [h0]), hb⟩
set_option maxHeartbeats 800000 in
set_option maxRecDepth 100000 in
theorem cMeets (o x : Od) (w : World) : Calls Try.prog 60 #[o.v, x.v] w fun e w' => e = .returned (.bool (meetsB o.s o.p x.p)) ∧ Below w.heap.size w w' := by
  have hb := fun s => ((Below.refl _ w).alloc (Nat.le_refl _) (.cells #[.int .i64 o.i, .int .i64 s, .int .i64 o.p, .int .i64 o.n] 52)).alloc (by simp) (.cells #[.int .i64 x.i, .int .i64 x.s, .int .i64 x.p, .int .i64 x.n] 52)
  by_cases h0 : o.s = 0
  · have hm : meetsB o.s o.p x.p = decide (x.p ≤ o.p) := by unfold meetsB; rw [if_pos h0]
    rw [hm]; clear hm
    go_enter Try.func60, Try.ntmps60
    go_wp2
    go_ret
    exact ⟨ret_bool (by simp), hb _⟩
  · have hm : meetsB o.s o.p x.p = decide (o.p ≤ x.p) := by unfold meetsB; rw [if_neg h0]
    rw [hm]; clear hm
    go_enter Try.func60, Try.ntmps60
    go_wp2
    go_ret
    exact ⟨ret_bool (by simp), hb _⟩
set_option maxHeartbeats 800000 in
set_option maxRecDepth 100000 in
theorem cBetter (o x : Od) (w : World) : Calls Try.prog 64 #[o.v, x.v] w fun e w' => e = .returned (.bool (betterB o.s o.p x.p)) ∧ Below w.heap.size w w' := by
  have hb := fun s => ((Below.refl _ w).alloc (Nat.le_refl _) (.cells #[.int .i64 o.i, .int .i64 s, .int .i64 o.p, .int .i64 o.n] 52)).alloc (by simp) (.cells #[.int .i64 x.i, .int .i64 x.s, .int .i64 x.p, .int .i64 x.n] 52)
  by_cases h0 : o.s = 0
  · have hm : betterB o.s o.p x.p = decide (x.p < o.p) := by unfold betterB; rw [if_pos h0]
    rw [hm]; clear hm
    go_enter Try.func64, Try.ntmps64
    go_wp2
    go_ret
    exact ⟨ret_bool (by simp), hb _⟩
  · have hm : betterB o.s o.p x.p = decide (o.p < x.p) := by unfold betterB; rw [if_neg h0]
    rw [hm]; clear hm
    go_enter Try.func64, Try.ntmps64
    go_wp2
    go_ret
    exact ⟨ret_bool (by simp), hb _⟩
/-- A reply: its error, its fills, what is left. -/
abbrev rpV (e : Int) (f : Value) (n : Int) : Value := .agg #[.int .i64 e, f, .int .i64 n]
set_option maxRecDepth 100000 in
theorem cFailed (err : Int) (w : World) : Calls Try.prog 49 #[.int .i64 err] w fun e w' => e = .returned (rpV err (.slice none 0 0) 0) ∧ Below w.heap.size w w' := by
  have hb := (Below.refl _ w).alloc (Nat.le_refl _) (.cells #[.int .i64 err, .slice none 0 0, .int .i64 0] 37)
  go_enter Try.func49, Try.ntmps49
  go_wp2
  exact bodyPost_ret (v := rpV err (.slice none 0 0) 0) (by simp [results, Try.results49, go_sem]) rfl ⟨rfl, hb⟩

/-- A name's test. -/
abbrev isI (id : Int) (x : Od) : Bool := x.i == id
set_option maxHeartbeats 800000 in
set_option maxRecDepth 100000 in
theorem cWhere1 (id : Int) (q : Nat) (w : World) (hq : q < w.heap.size) (hc : w.cell? ⟨q, 0, none⟩ = some (.int .i64 id)) : ∀ (W : World) (x : Od), Below w.heap.size w W → Calls Try.prog 66 (#[x.v] ++ #[ptr q]) W fun e w' => e = .returned (.bool (isI id x)) ∧ Below w.heap.size w w' := fun W x hb => by
  have hc' : W.cell? ⟨q, 0, none⟩ = some (.int .i64 id) := (hb.cell (p := ⟨q, 0, none⟩) hq).trans hc
  have hqW : q < W.heap.size := Nat.lt_of_lt_of_le hq hb.size
  have hne : q ≠ W.heap.size := by omega
  show Calls Try.prog 66 #[.agg #[.int .i64 x.i, .int .i64 x.s, .int .i64 x.p, .int .i64 x.n], ptr q] W _
  go_enter Try.func66, Try.ntmps66
  go_wp2
  go_ret
  exact ⟨rfl, hb.alloc hb.size _⟩
/-- A price's test. -/
abbrev isW (o x : Od) : Bool := betterB o.s o.p x.p
set_option maxHeartbeats 1600000 in
set_option maxRecDepth 100000 in
theorem cRest1 (o : Od) (q : Nat) (w : World) (hc : w.heap[q]? = some (.cells #[.int .i64 o.i, .int .i64 o.s, .int .i64 o.p, .int .i64 o.n] 52 (0, 0))) : ∀ (W : World) (x : Od), Below w.heap.size w W → Calls Try.prog 63 (#[x.v] ++ #[ptr q]) W fun e w' => e = .returned (.bool (isW o x)) ∧ Below w.heap.size w w' := fun W x hb => by
  have hq := (Array.getElem?_eq_some_iff.1 hc).1
  have hcW : W.heap[q]? = some (.cells #[.int .i64 o.i, .int .i64 o.s, .int .i64 o.p, .int .i64 o.n] 52 (0, 0)) := (hb.block q hq).trans hc
  have hqW : q < W.heap.size := Nat.lt_of_lt_of_le hq hb.size
  have hne : q ≠ W.heap.size := by omega
  have c0 := cellAt' hcW 0
  have c1 := cellAt' hcW 1
  have c2 := cellAt' hcW 2
  have c3 := cellAt' hcW 3
  have HB : Hid (Below w.heap.size w (W.alloc (.cells #[.int .i64 x.i, .int .i64 x.s, .int .i64 x.p, .int .i64 x.n] 52))) := hid (hb.alloc hb.size _)
  have HS := hid hb.size
  have HK := fun w => cBetter o x w
  have HM := hid HK
  clear hcW hc hq hb HK
  simp at c0 c1 c2 c3
  show Calls Try.prog 63 #[.agg #[.int .i64 x.i, .int .i64 x.s, .int .i64 x.p, .int .i64 x.n], ptr q] W _
  go_enter Try.func63, Try.ntmps63
  go_wp2_with (go_at_call 64; refine (HM.out _).mono ?_; rintro e w1 ⟨rfl, hB1⟩)
  go_ret
  exact ⟨rfl, HB.out.trans (hB1.mono (by simp; have := HS.out; omega))⟩
end Go.Proofs.Ytdgllpfccdbdnaa
