import Derived.Test.YtogoibigabpkhaaGreatQAsk2M
import Derived.Test.YtogoibigabpkhaaGreatQLearnM
/- What is asked of no index: nothing. -/
namespace Go.Proofs.YtogoibigabpkhaaGreat
set_option linter.unusedVariables false
open Go.RowKit
open Go.Lib (hid)

set_option maxHeartbeats 1000000 in
set_option maxRecDepth 100000 in
theorem cTouching_nil (c : C7) (g : FuncId) (lb : Array Value) (w : World) : Calls Tryz.prog 54 #[.pointer none, c.v, .func (.func g) #[] lb] w fun e w' => e = .returned (.slice none 0 0) ∧ Below w.heap.size w w' := by
  have HW : Hid (Below w.heap.size w (w.alloc (.cells #[.int .i64 c.i, .int .i64 c.k, .int .i64 c.s, .int .i64 c.t, .int .i64 c.d, .int .i64 c.p, .int .i64 c.q] 40))) := hid ((Below.refl _ w).alloc (Nat.le_refl _) _)
  go_enter Tryz.func54, Tryz.ntmps54
  go_wp2_with (first
    | (go_at_call 41; refine (cMade_nil _).mono ?_; rintro e w' ⟨rfl, rfl⟩)
    | fail)
  go_ret
  exact ⟨rfl, HW.out⟩
theorem cLearn_nil (w : World) : Calls Tryz.prog 24 #[.pointer none, .slice none 0 0] w fun e w' => e = .returned (.int .i64 1) ∧ w = w' := by
  have hM := cMade_nil w
  go_enter Tryz.func24, Tryz.ntmps24
  go_wp2_with (go_at_call 41; refine hM.mono ?_; rintro e w' ⟨rfl, rfl⟩)
  go_ret
  exact ⟨rfl, rfl⟩
set_option maxHeartbeats 1000000 in
set_option maxRecDepth 100000 in
theorem cPred_nil (c : C7) (t : Int) (w : World) : Calls Tryz.prog 19 #[.pointer none, c.v, .int .i64 t] w fun e w' => e = .returned (.slice none 0 0) ∧ Below w.heap.size w w' := by
  have HW : Hid (Below w.heap.size w ((w.alloc (.cells #[.int .i64 c.i, .int .i64 c.k, .int .i64 c.s, .int .i64 c.t, .int .i64 c.d, .int .i64 c.p, .int .i64 c.q] 40)).alloc (.cells #[.int .i64 t] 3))) := hid (laid2_b w (.cells #[.int .i64 c.i, .int .i64 c.k, .int .i64 c.s, .int .i64 c.t, .int .i64 c.d, .int .i64 c.p, .int .i64 c.q] 40) (.cells #[.int .i64 t] 3))
  have HB0 : Hid (((w.alloc (.cells #[.int .i64 c.i, .int .i64 c.k, .int .i64 c.s, .int .i64 c.t, .int .i64 c.d, .int .i64 c.p, .int .i64 c.q] 40)).alloc (.cells #[.int .i64 t] 3)).heap[w.heap.size]? = some (.cells #[.int .i64 c.i, .int .i64 c.k, .int .i64 c.s, .int .i64 c.t, .int .i64 c.d, .int .i64 c.p, .int .i64 c.q] 40)) := hid (laid2_0 w (.cells #[.int .i64 c.i, .int .i64 c.k, .int .i64 c.s, .int .i64 c.t, .int .i64 c.d, .int .i64 c.p, .int .i64 c.q] 40) (.cells #[.int .i64 t] 3))
  have d0 := (cellAt' HB0.out 0).trans (show _ = some (Value.int .i64 c.i) from rfl)
  have d1 := (cellAt' HB0.out 1).trans (show _ = some (Value.int .i64 c.k) from rfl)
  have d2 := (cellAt' HB0.out 2).trans (show _ = some (Value.int .i64 c.s) from rfl)
  have d3 := (cellAt' HB0.out 3).trans (show _ = some (Value.int .i64 c.t) from rfl)
  have d4 := (cellAt' HB0.out 4).trans (show _ = some (Value.int .i64 c.d) from rfl)
  have d5 := (cellAt' HB0.out 5).trans (show _ = some (Value.int .i64 c.p) from rfl)
  have d6 := (cellAt' HB0.out 6).trans (show _ = some (Value.int .i64 c.q) from rfl)
  go_enter Tryz.func19, Tryz.ntmps19
  go_wp2_with fail
  go_at_call 54
  refine (cTouching_nil c _ _ _).mono ?_
  rintro e w1 ⟨rfl, hB⟩
  have HB := hid (HW.out.trans (hB.mono HW.out.size))
  clear hB
  go_wp2_with fail
  go_ret
  exact ⟨rfl, HB.out⟩
set_option maxHeartbeats 1000000 in
set_option maxRecDepth 100000 in
theorem cHolders_nil (c : C7) (t : Int) (w : World) : Calls Tryz.prog 20 #[.pointer none, c.v, .int .i64 t] w fun e w' => ∃ v, e = .returned v ∧ OwnI w' w.heap.size v [] ∧ Below w.heap.size w w' := by
  have HW : Hid (Below w.heap.size w ((w.alloc (.cells #[.int .i64 c.i, .int .i64 c.k, .int .i64 c.s, .int .i64 c.t, .int .i64 c.d, .int .i64 c.p, .int .i64 c.q] 40)).alloc (.cells #[.int .i64 t] 3))) := hid (laid2_b w (.cells #[.int .i64 c.i, .int .i64 c.k, .int .i64 c.s, .int .i64 c.t, .int .i64 c.d, .int .i64 c.p, .int .i64 c.q] 40) (.cells #[.int .i64 t] 3))
  have HB0 : Hid (((w.alloc (.cells #[.int .i64 c.i, .int .i64 c.k, .int .i64 c.s, .int .i64 c.t, .int .i64 c.d, .int .i64 c.p, .int .i64 c.q] 40)).alloc (.cells #[.int .i64 t] 3)).heap[w.heap.size]? = some (.cells #[.int .i64 c.i, .int .i64 c.k, .int .i64 c.s, .int .i64 c.t, .int .i64 c.d, .int .i64 c.p, .int .i64 c.q] 40)) := hid (laid2_0 w (.cells #[.int .i64 c.i, .int .i64 c.k, .int .i64 c.s, .int .i64 c.t, .int .i64 c.d, .int .i64 c.p, .int .i64 c.q] 40) (.cells #[.int .i64 t] 3))
  have d0 := (cellAt' HB0.out 0).trans (show _ = some (Value.int .i64 c.i) from rfl)
  have d1 := (cellAt' HB0.out 1).trans (show _ = some (Value.int .i64 c.k) from rfl)
  have d2 := (cellAt' HB0.out 2).trans (show _ = some (Value.int .i64 c.s) from rfl)
  have d3 := (cellAt' HB0.out 3).trans (show _ = some (Value.int .i64 c.t) from rfl)
  have d4 := (cellAt' HB0.out 4).trans (show _ = some (Value.int .i64 c.d) from rfl)
  have d5 := (cellAt' HB0.out 5).trans (show _ = some (Value.int .i64 c.p) from rfl)
  have d6 := (cellAt' HB0.out 6).trans (show _ = some (Value.int .i64 c.q) from rfl)
  go_enter Tryz.func20, Tryz.ntmps20
  go_wp2_with fail
  go_at_call 54
  refine (cTouching_nil c _ _ _).mono ?_
  rintro e w1 ⟨rfl, hB⟩
  have HB := hid (HW.out.trans (hB.mono HW.out.size))
  have hI := cIds (v := .slice none 0 0) (cs := []) (w := w1) (Own.nil w1 0).sl (by simp)
  clear hB
  go_wp2_with fail
  go_at_call 57
  refine hI.mono ?_
  rintro e w2 ⟨r, rfl, hr, hB2⟩
  have HR := hid hr
  have HB2 := hid (HB.out.trans (hB2.mono HB.out.size))
  have HQ := hid HB.out.size
  clear hr hB2 hI
  go_wp2_with fail
  go_ret
  exact ⟨r, rfl, own_monoB HR.out HQ.out, HB2.out⟩
set_option maxHeartbeats 1000000 in
set_option maxRecDepth 100000 in
theorem cKillers_nil (c : C7) (t : Int) (w : World) : Calls Tryz.prog 21 #[.pointer none, c.v, .int .i64 t] w fun e w' => ∃ v, e = .returned v ∧ OwnI w' w.heap.size v [] ∧ Below w.heap.size w w' := by
  have HW : Hid (Below w.heap.size w ((w.alloc (.cells #[.int .i64 c.i, .int .i64 c.k, .int .i64 c.s, .int .i64 c.t, .int .i64 c.d, .int .i64 c.p, .int .i64 c.q] 40)).alloc (.cells #[.int .i64 t] 3))) := hid (laid2_b w (.cells #[.int .i64 c.i, .int .i64 c.k, .int .i64 c.s, .int .i64 c.t, .int .i64 c.d, .int .i64 c.p, .int .i64 c.q] 40) (.cells #[.int .i64 t] 3))
  have HB0 : Hid (((w.alloc (.cells #[.int .i64 c.i, .int .i64 c.k, .int .i64 c.s, .int .i64 c.t, .int .i64 c.d, .int .i64 c.p, .int .i64 c.q] 40)).alloc (.cells #[.int .i64 t] 3)).heap[w.heap.size]? = some (.cells #[.int .i64 c.i, .int .i64 c.k, .int .i64 c.s, .int .i64 c.t, .int .i64 c.d, .int .i64 c.p, .int .i64 c.q] 40)) := hid (laid2_0 w (.cells #[.int .i64 c.i, .int .i64 c.k, .int .i64 c.s, .int .i64 c.t, .int .i64 c.d, .int .i64 c.p, .int .i64 c.q] 40) (.cells #[.int .i64 t] 3))
  have d0 := (cellAt' HB0.out 0).trans (show _ = some (Value.int .i64 c.i) from rfl)
  have d1 := (cellAt' HB0.out 1).trans (show _ = some (Value.int .i64 c.k) from rfl)
  have d2 := (cellAt' HB0.out 2).trans (show _ = some (Value.int .i64 c.s) from rfl)
  have d3 := (cellAt' HB0.out 3).trans (show _ = some (Value.int .i64 c.t) from rfl)
  have d4 := (cellAt' HB0.out 4).trans (show _ = some (Value.int .i64 c.d) from rfl)
  have d5 := (cellAt' HB0.out 5).trans (show _ = some (Value.int .i64 c.p) from rfl)
  have d6 := (cellAt' HB0.out 6).trans (show _ = some (Value.int .i64 c.q) from rfl)
  go_enter Tryz.func21, Tryz.ntmps21
  go_wp2_with fail
  go_at_call 54
  refine (cTouching_nil c _ _ _).mono ?_
  rintro e w1 ⟨rfl, hB⟩
  have HB := hid (HW.out.trans (hB.mono HW.out.size))
  have hI := cIds (v := .slice none 0 0) (cs := []) (w := w1) (Own.nil w1 0).sl (by simp)
  clear hB
  go_wp2_with fail
  go_at_call 57
  refine hI.mono ?_
  rintro e w2 ⟨r, rfl, hr, hB2⟩
  have HR := hid hr
  have HB2 := hid (HB.out.trans (hB2.mono HB.out.size))
  have HQ := hid HB.out.size
  clear hr hB2 hI
  go_wp2_with fail
  go_ret
  exact ⟨r, rfl, own_monoB HR.out HQ.out, HB2.out⟩
set_option maxHeartbeats 1000000 in
set_option maxRecDepth 100000 in
theorem cAbsent_nil (c : C7) (t : Int) (pa : Option Addr) (pn pc : Nat) (d : Bool) (w : World) : Calls Tryz.prog 22 #[.pointer none, c.v, .int .i64 t, .slice pa pn pc, .bool d] w fun e w' => ∃ v, e = .returned v ∧ OwnI w' w.heap.size v [] ∧ Below w.heap.size w w' := by
  have HW : Hid (Below w.heap.size w ((((w.alloc (.cells #[.int .i64 c.i, .int .i64 c.k, .int .i64 c.s, .int .i64 c.t, .int .i64 c.d, .int .i64 c.p, .int .i64 c.q] 40)).alloc (.cells #[.int .i64 t] 3)).alloc (.cells #[.slice pa pn pc] 36)).alloc (.cells #[.bool d] 4))) := hid (laid4_b w (.cells #[.int .i64 c.i, .int .i64 c.k, .int .i64 c.s, .int .i64 c.t, .int .i64 c.d, .int .i64 c.p, .int .i64 c.q] 40) (.cells #[.int .i64 t] 3) (.cells #[.slice pa pn pc] 36) (.cells #[.bool d] 4))
  have HB0 : Hid (((((w.alloc (.cells #[.int .i64 c.i, .int .i64 c.k, .int .i64 c.s, .int .i64 c.t, .int .i64 c.d, .int .i64 c.p, .int .i64 c.q] 40)).alloc (.cells #[.int .i64 t] 3)).alloc (.cells #[.slice pa pn pc] 36)).alloc (.cells #[.bool d] 4)).heap[w.heap.size]? = some (.cells #[.int .i64 c.i, .int .i64 c.k, .int .i64 c.s, .int .i64 c.t, .int .i64 c.d, .int .i64 c.p, .int .i64 c.q] 40)) := hid (laid4_0 w (.cells #[.int .i64 c.i, .int .i64 c.k, .int .i64 c.s, .int .i64 c.t, .int .i64 c.d, .int .i64 c.p, .int .i64 c.q] 40) (.cells #[.int .i64 t] 3) (.cells #[.slice pa pn pc] 36) (.cells #[.bool d] 4))
  have d0 := (cellAt' HB0.out 0).trans (show _ = some (Value.int .i64 c.i) from rfl)
  have d1 := (cellAt' HB0.out 1).trans (show _ = some (Value.int .i64 c.k) from rfl)
  have d2 := (cellAt' HB0.out 2).trans (show _ = some (Value.int .i64 c.s) from rfl)
  have d3 := (cellAt' HB0.out 3).trans (show _ = some (Value.int .i64 c.t) from rfl)
  have d4 := (cellAt' HB0.out 4).trans (show _ = some (Value.int .i64 c.d) from rfl)
  have d5 := (cellAt' HB0.out 5).trans (show _ = some (Value.int .i64 c.p) from rfl)
  have d6 := (cellAt' HB0.out 6).trans (show _ = some (Value.int .i64 c.q) from rfl)
  go_enter Tryz.func22, Tryz.ntmps22
  go_wp2_with fail
  go_at_call 54
  refine (cTouching_nil c _ _ _).mono ?_
  rintro e w1 ⟨rfl, hB⟩
  have HB := hid (HW.out.trans (hB.mono HW.out.size))
  have hI := cIds (v := .slice none 0 0) (cs := []) (w := w1) (Own.nil w1 0).sl (by simp)
  clear hB
  go_wp2_with fail
  go_at_call 57
  refine hI.mono ?_
  rintro e w2 ⟨r, rfl, hr, hB2⟩
  have HR := hid hr
  have HB2 := hid (HB.out.trans (hB2.mono HB.out.size))
  have HQ := hid HB.out.size
  clear hr hB2 hI
  go_wp2_with fail
  go_ret
  exact ⟨r, rfl, own_monoB HR.out HQ.out, HB2.out⟩
end Go.Proofs.YtogoibigabpkhaaGreat
