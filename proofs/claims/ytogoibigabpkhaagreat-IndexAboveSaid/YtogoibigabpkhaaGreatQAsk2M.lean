import Derived.Test.YtogoibigabpkhaaGreatQAskM
/- Pred, Holders, Killers, Absent of the program's index: what touches a command, and is so. -/
namespace Go.Proofs.YtogoibigabpkhaaGreat
set_option linter.unusedVariables false
open Go.RowKit
open Go.Lib (hid)

set_option maxHeartbeats 2000000 in
set_option maxRecDepth 100000 in
theorem cPred {w : World} {x b b2 n : Nat} {nd c0 : Int} {xs : List En} {ids : List Int} (h : Ix w x b b2 n nd c0 xs ids) (hn : n ≤ 20000) (hlx : xs.length ≤ 20000) (hA : AllAt w xs) (hs : ∀ y ∈ xs, y.short 1024) (c : C7) (t : Int) : Calls Tryz.prog 19 #[ptr x, c.v, .int .i64 t] w fun e w' => ∃ v, e = .returned v ∧ Sl w' v (touchL xs c (fun y => aheadE y.e t)) ∧ Below w.heap.size w w' := by
  have HW : Hid (Below w.heap.size w ((w.alloc (.cells #[.int .i64 c.i, .int .i64 c.k, .int .i64 c.s, .int .i64 c.t, .int .i64 c.d, .int .i64 c.p, .int .i64 c.q] 40)).alloc (.cells #[.int .i64 t] 3))) := hid (laid2_b w (.cells #[.int .i64 c.i, .int .i64 c.k, .int .i64 c.s, .int .i64 c.t, .int .i64 c.d, .int .i64 c.p, .int .i64 c.q] 40) (.cells #[.int .i64 t] 3))
  have HB0 : Hid (((w.alloc (.cells #[.int .i64 c.i, .int .i64 c.k, .int .i64 c.s, .int .i64 c.t, .int .i64 c.d, .int .i64 c.p, .int .i64 c.q] 40)).alloc (.cells #[.int .i64 t] 3)).heap[w.heap.size]? = some (.cells #[.int .i64 c.i, .int .i64 c.k, .int .i64 c.s, .int .i64 c.t, .int .i64 c.d, .int .i64 c.p, .int .i64 c.q] 40)) := hid (laid2_0 w (.cells #[.int .i64 c.i, .int .i64 c.k, .int .i64 c.s, .int .i64 c.t, .int .i64 c.d, .int .i64 c.p, .int .i64 c.q] 40) (.cells #[.int .i64 t] 3))
  have HB1 : Hid (((w.alloc (.cells #[.int .i64 c.i, .int .i64 c.k, .int .i64 c.s, .int .i64 c.t, .int .i64 c.d, .int .i64 c.p, .int .i64 c.q] 40)).alloc (.cells #[.int .i64 t] 3)).heap[w.heap.size + 1]? = some (.cells #[.int .i64 t] 3)) := hid (laid2_1 w (.cells #[.int .i64 c.i, .int .i64 c.k, .int .i64 c.s, .int .i64 c.t, .int .i64 c.d, .int .i64 c.p, .int .i64 c.q] 40) (.cells #[.int .i64 t] 3))
  have HJ := hid (h.on HW.out)
  have HA := hid (fun y (hy : y ∈ xs) => (hA y hy).on HW.out)
  have hsz : ((w.alloc (.cells #[.int .i64 c.i, .int .i64 c.k, .int .i64 c.s, .int .i64 c.t, .int .i64 c.d, .int .i64 c.p, .int .i64 c.q] 40)).alloc (.cells #[.int .i64 t] 3)).heap.size = w.heap.size + 2 := by simp
  have HSZ := hid hsz
  have hT := cTouching (lb := #[ptr (w.heap.size + 1)]) (P := fun y => aheadE y.e t) HJ.out hn c (enters_of Tryz.func55 (by kernel_rfl) rfl) fun W y hy hW => by
    exact cPred1 y.e (capOn (v := _) ((cellAt' HB1.out 0).trans rfl) hW (by have := HSZ.out; omega)) (by have := hW.size; have := HSZ.out; omega)
  have HT := hid hT
  have d0 := (cellAt' HB0.out 0).trans (show _ = some (Value.int .i64 c.i) from rfl)
  have d1 := (cellAt' HB0.out 1).trans (show _ = some (Value.int .i64 c.k) from rfl)
  have d2 := (cellAt' HB0.out 2).trans (show _ = some (Value.int .i64 c.s) from rfl)
  have d3 := (cellAt' HB0.out 3).trans (show _ = some (Value.int .i64 c.t) from rfl)
  have d4 := (cellAt' HB0.out 4).trans (show _ = some (Value.int .i64 c.d) from rfl)
  have d5 := (cellAt' HB0.out 5).trans (show _ = some (Value.int .i64 c.p) from rfl)
  have d6 := (cellAt' HB0.out 6).trans (show _ = some (Value.int .i64 c.q) from rfl)
  clear h hA hsz hT
  go_enter Tryz.func19, Tryz.ntmps19
  go_wp2_with fail
  go_at_call 54
  refine HT.out.mono ?_
  rintro e w1 ⟨v, rfl, hv, hB⟩
  have HV := hid hv
  have HB := hid (HW.out.trans (hB.mono (by have := HSZ.out; omega)))
  clear hv hB
  go_wp2_with fail
  go_ret
  exact ⟨v, rfl, HV.out, HB.out⟩
set_option maxHeartbeats 2000000 in
set_option maxRecDepth 100000 in
theorem cHolders {w : World} {x b b2 n : Nat} {nd c0 : Int} {xs : List En} {ids : List Int} (h : Ix w x b b2 n nd c0 xs ids) (hn : n ≤ 20000) (hlx : xs.length ≤ 20000) (hA : AllAt w xs) (hs : ∀ y ∈ xs, y.short 1024) (c : C7) (t : Int) : Calls Tryz.prog 20 #[ptr x, c.v, .int .i64 t] w fun e w' => ∃ v, e = .returned v ∧ OwnI w' w.heap.size v (idsL (touchL xs c (fun y => holdsE y.e t))) ∧ Below w.heap.size w w' := by
  have HW : Hid (Below w.heap.size w ((w.alloc (.cells #[.int .i64 c.i, .int .i64 c.k, .int .i64 c.s, .int .i64 c.t, .int .i64 c.d, .int .i64 c.p, .int .i64 c.q] 40)).alloc (.cells #[.int .i64 t] 3))) := hid (laid2_b w (.cells #[.int .i64 c.i, .int .i64 c.k, .int .i64 c.s, .int .i64 c.t, .int .i64 c.d, .int .i64 c.p, .int .i64 c.q] 40) (.cells #[.int .i64 t] 3))
  have HB0 : Hid (((w.alloc (.cells #[.int .i64 c.i, .int .i64 c.k, .int .i64 c.s, .int .i64 c.t, .int .i64 c.d, .int .i64 c.p, .int .i64 c.q] 40)).alloc (.cells #[.int .i64 t] 3)).heap[w.heap.size]? = some (.cells #[.int .i64 c.i, .int .i64 c.k, .int .i64 c.s, .int .i64 c.t, .int .i64 c.d, .int .i64 c.p, .int .i64 c.q] 40)) := hid (laid2_0 w (.cells #[.int .i64 c.i, .int .i64 c.k, .int .i64 c.s, .int .i64 c.t, .int .i64 c.d, .int .i64 c.p, .int .i64 c.q] 40) (.cells #[.int .i64 t] 3))
  have HB1 : Hid (((w.alloc (.cells #[.int .i64 c.i, .int .i64 c.k, .int .i64 c.s, .int .i64 c.t, .int .i64 c.d, .int .i64 c.p, .int .i64 c.q] 40)).alloc (.cells #[.int .i64 t] 3)).heap[w.heap.size + 1]? = some (.cells #[.int .i64 t] 3)) := hid (laid2_1 w (.cells #[.int .i64 c.i, .int .i64 c.k, .int .i64 c.s, .int .i64 c.t, .int .i64 c.d, .int .i64 c.p, .int .i64 c.q] 40) (.cells #[.int .i64 t] 3))
  have HJ := hid (h.on HW.out)
  have HA := hid (fun y (hy : y ∈ xs) => (hA y hy).on HW.out)
  have hsz : ((w.alloc (.cells #[.int .i64 c.i, .int .i64 c.k, .int .i64 c.s, .int .i64 c.t, .int .i64 c.d, .int .i64 c.p, .int .i64 c.q] 40)).alloc (.cells #[.int .i64 t] 3)).heap.size = w.heap.size + 2 := by simp
  have HSZ := hid hsz
  have hT := cTouching (lb := #[ptr (w.heap.size + 1)]) (P := fun y => holdsE y.e t) HJ.out hn c (enters_of Tryz.func58 (by kernel_rfl) rfl) fun W y hy hW => by
    exact cHolders1 y.e (capOn (v := _) ((cellAt' HB1.out 0).trans rfl) hW (by have := HSZ.out; omega)) (by have := hW.size; have := HSZ.out; omega)
  have HT := hid hT
  have d0 := (cellAt' HB0.out 0).trans (show _ = some (Value.int .i64 c.i) from rfl)
  have d1 := (cellAt' HB0.out 1).trans (show _ = some (Value.int .i64 c.k) from rfl)
  have d2 := (cellAt' HB0.out 2).trans (show _ = some (Value.int .i64 c.s) from rfl)
  have d3 := (cellAt' HB0.out 3).trans (show _ = some (Value.int .i64 c.t) from rfl)
  have d4 := (cellAt' HB0.out 4).trans (show _ = some (Value.int .i64 c.d) from rfl)
  have d5 := (cellAt' HB0.out 5).trans (show _ = some (Value.int .i64 c.p) from rfl)
  have d6 := (cellAt' HB0.out 6).trans (show _ = some (Value.int .i64 c.q) from rfl)
  clear h hA hsz hT
  go_enter Tryz.func20, Tryz.ntmps20
  go_wp2_with fail
  go_at_call 54
  refine HT.out.mono ?_
  rintro e w1 ⟨v, rfl, hv, hB⟩
  have HV := hid hv
  have HB := hid (HW.out.trans (hB.mono (by have := HSZ.out; omega)))
  have hI := cIds hv (by have := touch_len xs c (fun y => holdsE y.e t); omega)
  clear hv hB
  go_wp2_with fail
  go_at_call 57
  refine hI.mono ?_
  rintro e w2 ⟨r, rfl, hr, hB2⟩
  have HR := hid hr
  have HB2 := hid (HB.out.trans (hB2.mono HB.out.size))
  have HQ := hid HB.out.size
  clear hr hB2 hI
  go_wp2_with fail
  go_ret
  exact ⟨r, rfl, own_monoB HR.out HQ.out, HB2.out⟩
set_option maxHeartbeats 2000000 in
set_option maxRecDepth 100000 in
theorem cKillers {w : World} {x b b2 n : Nat} {nd c0 : Int} {xs : List En} {ids : List Int} (h : Ix w x b b2 n nd c0 xs ids) (hn : n ≤ 20000) (hlx : xs.length ≤ 20000) (hA : AllAt w xs) (hs : ∀ y ∈ xs, y.short 1024) (c : C7) (t : Int) : Calls Tryz.prog 21 #[ptr x, c.v, .int .i64 t] w fun e w' => ∃ v, e = .returned v ∧ OwnI w' w.heap.size v (idsL (touchL xs c (killB t c.i))) ∧ Below w.heap.size w w' := by
  have HW : Hid (Below w.heap.size w ((w.alloc (.cells #[.int .i64 c.i, .int .i64 c.k, .int .i64 c.s, .int .i64 c.t, .int .i64 c.d, .int .i64 c.p, .int .i64 c.q] 40)).alloc (.cells #[.int .i64 t] 3))) := hid (laid2_b w (.cells #[.int .i64 c.i, .int .i64 c.k, .int .i64 c.s, .int .i64 c.t, .int .i64 c.d, .int .i64 c.p, .int .i64 c.q] 40) (.cells #[.int .i64 t] 3))
  have HB0 : Hid (((w.alloc (.cells #[.int .i64 c.i, .int .i64 c.k, .int .i64 c.s, .int .i64 c.t, .int .i64 c.d, .int .i64 c.p, .int .i64 c.q] 40)).alloc (.cells #[.int .i64 t] 3)).heap[w.heap.size]? = some (.cells #[.int .i64 c.i, .int .i64 c.k, .int .i64 c.s, .int .i64 c.t, .int .i64 c.d, .int .i64 c.p, .int .i64 c.q] 40)) := hid (laid2_0 w (.cells #[.int .i64 c.i, .int .i64 c.k, .int .i64 c.s, .int .i64 c.t, .int .i64 c.d, .int .i64 c.p, .int .i64 c.q] 40) (.cells #[.int .i64 t] 3))
  have HB1 : Hid (((w.alloc (.cells #[.int .i64 c.i, .int .i64 c.k, .int .i64 c.s, .int .i64 c.t, .int .i64 c.d, .int .i64 c.p, .int .i64 c.q] 40)).alloc (.cells #[.int .i64 t] 3)).heap[w.heap.size + 1]? = some (.cells #[.int .i64 t] 3)) := hid (laid2_1 w (.cells #[.int .i64 c.i, .int .i64 c.k, .int .i64 c.s, .int .i64 c.t, .int .i64 c.d, .int .i64 c.p, .int .i64 c.q] 40) (.cells #[.int .i64 t] 3))
  have HJ := hid (h.on HW.out)
  have HA := hid (fun y (hy : y ∈ xs) => (hA y hy).on HW.out)
  have hsz : ((w.alloc (.cells #[.int .i64 c.i, .int .i64 c.k, .int .i64 c.s, .int .i64 c.t, .int .i64 c.d, .int .i64 c.p, .int .i64 c.q] 40)).alloc (.cells #[.int .i64 t] 3)).heap.size = w.heap.size + 2 := by simp
  have HSZ := hid hsz
  have hT := cTouching (lb := #[ptr (w.heap.size + 1), ptr (w.heap.size)]) (P := killB t c.i) HJ.out hn c (enters_of Tryz.func60 (by kernel_rfl) rfl) fun W y hy hW => by
    obtain ⟨k1, k2⟩ := look_key En.id xs _ y hy
    exact cKillers1 y ((HA.out y k2).on hW) (hs y k2) (capOn (v := _) ((cellAt' HB1.out 0).trans rfl) hW (by have := HSZ.out; omega)) (by have := hW.size; have := HSZ.out; omega) (capOn (v := _) ((cellAt' HB0.out 0).trans rfl) hW (by have := HSZ.out; omega)) (by have := hW.size; have := HSZ.out; omega)
  have HT := hid hT
  have d0 := (cellAt' HB0.out 0).trans (show _ = some (Value.int .i64 c.i) from rfl)
  have d1 := (cellAt' HB0.out 1).trans (show _ = some (Value.int .i64 c.k) from rfl)
  have d2 := (cellAt' HB0.out 2).trans (show _ = some (Value.int .i64 c.s) from rfl)
  have d3 := (cellAt' HB0.out 3).trans (show _ = some (Value.int .i64 c.t) from rfl)
  have d4 := (cellAt' HB0.out 4).trans (show _ = some (Value.int .i64 c.d) from rfl)
  have d5 := (cellAt' HB0.out 5).trans (show _ = some (Value.int .i64 c.p) from rfl)
  have d6 := (cellAt' HB0.out 6).trans (show _ = some (Value.int .i64 c.q) from rfl)
  clear h hA hsz hT
  go_enter Tryz.func21, Tryz.ntmps21
  go_wp2_with fail
  go_at_call 54
  refine HT.out.mono ?_
  rintro e w1 ⟨v, rfl, hv, hB⟩
  have HV := hid hv
  have HB := hid (HW.out.trans (hB.mono (by have := HSZ.out; omega)))
  have hI := cIds hv (by have := touch_len xs c (killB t c.i); omega)
  clear hv hB
  go_wp2_with fail
  go_at_call 57
  refine hI.mono ?_
  rintro e w2 ⟨r, rfl, hr, hB2⟩
  have HR := hid hr
  have HB2 := hid (HB.out.trans (hB2.mono HB.out.size))
  have HQ := hid HB.out.size
  clear hr hB2 hI
  go_wp2_with fail
  go_ret
  exact ⟨r, rfl, own_monoB HR.out HQ.out, HB2.out⟩
set_option maxHeartbeats 2000000 in
set_option maxRecDepth 100000 in
theorem cAbsent {w : World} {x b b2 n : Nat} {nd c0 : Int} {xs : List En} {ids : List Int} (h : Ix w x b b2 n nd c0 xs ids) (hn : n ≤ 20000) (hlx : xs.length ≤ 20000) (hA : AllAt w xs) (hs : ∀ y ∈ xs, y.short 1024) (c : C7) (t : Int) {pa : Option Addr} {pn pc : Nat} {ps : List C7} (hp : Sl w (.slice pa pn pc) ps) (hps : ps.length ≤ 1024) (d : Bool) : Calls Tryz.prog 22 #[ptr x, c.v, .int .i64 t, .slice pa pn pc, .bool d] w fun e w' => ∃ v, e = .returned v ∧ OwnI w' w.heap.size v (idsL (touchL xs c (absB t ps d))) ∧ Below w.heap.size w w' := by
  have HW : Hid (Below w.heap.size w ((((w.alloc (.cells #[.int .i64 c.i, .int .i64 c.k, .int .i64 c.s, .int .i64 c.t, .int .i64 c.d, .int .i64 c.p, .int .i64 c.q] 40)).alloc (.cells #[.int .i64 t] 3)).alloc (.cells #[.slice pa pn pc] 36)).alloc (.cells #[.bool d] 4))) := hid (laid4_b w (.cells #[.int .i64 c.i, .int .i64 c.k, .int .i64 c.s, .int .i64 c.t, .int .i64 c.d, .int .i64 c.p, .int .i64 c.q] 40) (.cells #[.int .i64 t] 3) (.cells #[.slice pa pn pc] 36) (.cells #[.bool d] 4))
  have HB0 : Hid (((((w.alloc (.cells #[.int .i64 c.i, .int .i64 c.k, .int .i64 c.s, .int .i64 c.t, .int .i64 c.d, .int .i64 c.p, .int .i64 c.q] 40)).alloc (.cells #[.int .i64 t] 3)).alloc (.cells #[.slice pa pn pc] 36)).alloc (.cells #[.bool d] 4)).heap[w.heap.size]? = some (.cells #[.int .i64 c.i, .int .i64 c.k, .int .i64 c.s, .int .i64 c.t, .int .i64 c.d, .int .i64 c.p, .int .i64 c.q] 40)) := hid (laid4_0 w (.cells #[.int .i64 c.i, .int .i64 c.k, .int .i64 c.s, .int .i64 c.t, .int .i64 c.d, .int .i64 c.p, .int .i64 c.q] 40) (.cells #[.int .i64 t] 3) (.cells #[.slice pa pn pc] 36) (.cells #[.bool d] 4))
  have HB1 : Hid (((((w.alloc (.cells #[.int .i64 c.i, .int .i64 c.k, .int .i64 c.s, .int .i64 c.t, .int .i64 c.d, .int .i64 c.p, .int .i64 c.q] 40)).alloc (.cells #[.int .i64 t] 3)).alloc (.cells #[.slice pa pn pc] 36)).alloc (.cells #[.bool d] 4)).heap[w.heap.size + 1]? = some (.cells #[.int .i64 t] 3)) := hid (laid4_1 w (.cells #[.int .i64 c.i, .int .i64 c.k, .int .i64 c.s, .int .i64 c.t, .int .i64 c.d, .int .i64 c.p, .int .i64 c.q] 40) (.cells #[.int .i64 t] 3) (.cells #[.slice pa pn pc] 36) (.cells #[.bool d] 4))
  have HB2 : Hid (((((w.alloc (.cells #[.int .i64 c.i, .int .i64 c.k, .int .i64 c.s, .int .i64 c.t, .int .i64 c.d, .int .i64 c.p, .int .i64 c.q] 40)).alloc (.cells #[.int .i64 t] 3)).alloc (.cells #[.slice pa pn pc] 36)).alloc (.cells #[.bool d] 4)).heap[w.heap.size + 2]? = some (.cells #[.slice pa pn pc] 36)) := hid (laid4_2 w (.cells #[.int .i64 c.i, .int .i64 c.k, .int .i64 c.s, .int .i64 c.t, .int .i64 c.d, .int .i64 c.p, .int .i64 c.q] 40) (.cells #[.int .i64 t] 3) (.cells #[.slice pa pn pc] 36) (.cells #[.bool d] 4))
  have HB3 : Hid (((((w.alloc (.cells #[.int .i64 c.i, .int .i64 c.k, .int .i64 c.s, .int .i64 c.t, .int .i64 c.d, .int .i64 c.p, .int .i64 c.q] 40)).alloc (.cells #[.int .i64 t] 3)).alloc (.cells #[.slice pa pn pc] 36)).alloc (.cells #[.bool d] 4)).heap[w.heap.size + 3]? = some (.cells #[.bool d] 4)) := hid (laid4_3 w (.cells #[.int .i64 c.i, .int .i64 c.k, .int .i64 c.s, .int .i64 c.t, .int .i64 c.d, .int .i64 c.p, .int .i64 c.q] 40) (.cells #[.int .i64 t] 3) (.cells #[.slice pa pn pc] 36) (.cells #[.bool d] 4))
  have HJ := hid (h.on HW.out)
  have HA := hid (fun y (hy : y ∈ xs) => (hA y hy).on HW.out)
  have HPS := hid (hp.on HW.out)
  have hsz : ((((w.alloc (.cells #[.int .i64 c.i, .int .i64 c.k, .int .i64 c.s, .int .i64 c.t, .int .i64 c.d, .int .i64 c.p, .int .i64 c.q] 40)).alloc (.cells #[.int .i64 t] 3)).alloc (.cells #[.slice pa pn pc] 36)).alloc (.cells #[.bool d] 4)).heap.size = w.heap.size + 4 := by simp
  have HSZ := hid hsz
  have hT := cTouching (lb := #[ptr (w.heap.size + 3), ptr (w.heap.size + 1), ptr (w.heap.size + 2)]) (P := absB t ps d) HJ.out hn c (enters_of Tryz.func62 (by kernel_rfl) rfl) fun W y hy hW => by
    exact cAbsent1 y (HPS.out.on hW) hps (capOn (v := _) ((cellAt' HB3.out 0).trans rfl) hW (by have := HSZ.out; omega)) (by have := hW.size; have := HSZ.out; omega) (capOn (v := _) ((cellAt' HB1.out 0).trans rfl) hW (by have := HSZ.out; omega)) (by have := hW.size; have := HSZ.out; omega) (capOn (v := _) ((cellAt' HB2.out 0).trans rfl) hW (by have := HSZ.out; omega)) (by have := hW.size; have := HSZ.out; omega)
  have HT := hid hT
  have d0 := (cellAt' HB0.out 0).trans (show _ = some (Value.int .i64 c.i) from rfl)
  have d1 := (cellAt' HB0.out 1).trans (show _ = some (Value.int .i64 c.k) from rfl)
  have d2 := (cellAt' HB0.out 2).trans (show _ = some (Value.int .i64 c.s) from rfl)
  have d3 := (cellAt' HB0.out 3).trans (show _ = some (Value.int .i64 c.t) from rfl)
  have d4 := (cellAt' HB0.out 4).trans (show _ = some (Value.int .i64 c.d) from rfl)
  have d5 := (cellAt' HB0.out 5).trans (show _ = some (Value.int .i64 c.p) from rfl)
  have d6 := (cellAt' HB0.out 6).trans (show _ = some (Value.int .i64 c.q) from rfl)
  clear h hA hsz hT
  go_enter Tryz.func22, Tryz.ntmps22
  go_wp2_with fail
  go_at_call 54
  refine HT.out.mono ?_
  rintro e w1 ⟨v, rfl, hv, hB⟩
  have HV := hid hv
  have HB := hid (HW.out.trans (hB.mono (by have := HSZ.out; omega)))
  have hI := cIds hv (by have := touch_len xs c (absB t ps d); omega)
  clear hv hB
  go_wp2_with fail
  go_at_call 57
  refine hI.mono ?_
  rintro e w2 ⟨r, rfl, hr, hB2⟩
  have HR := hid hr
  have HB2 := hid (HB.out.trans (hB2.mono HB.out.size))
  have HQ := hid HB.out.size
  clear hr hB2 hI
  go_wp2_with fail
  go_ret
  exact ⟨r, rfl, own_monoB HR.out HQ.out, HB2.out⟩
end Go.Proofs.YtogoibigabpkhaaGreat
