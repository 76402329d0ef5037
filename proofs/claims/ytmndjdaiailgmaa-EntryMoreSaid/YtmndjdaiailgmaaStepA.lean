/- Entries by value: the law's step. -/
import Derived.Test.YtmndjdaiailgmaaAny
namespace Go.Proofs.Ytmndjdaiailgmaa
set_option linter.unusedVariables false
open Go.RowKit
open Go.Lib (hid)

set_option maxHeartbeats 8000000 in
set_option maxRecDepth 100000 in
theorem step_0 {e m e1 m1 : Ev} {f1 g1 : Int} {s : Bool} {k b t : Int} {p : Sv} {w : World} (hk : k.tmod 6 = 0) (HC : ∀ W, Below w.heap.size w W → Calls Try.prog 25 #[.agg e.arr, .int .i64 b] W fun x w' => x = .returned (.tuple #[.agg e1.arr, .int .i64 f1]) ∧ Below W.heap.size W w')
    (HR : ∀ W, Below w.heap.size w W → Calls Try.prog 28 #[.agg m.arr, .int .i64 b] W fun x w' => x = .returned (.tuple #[.agg m1.arr, .int .i64 g1]) ∧ Below W.heap.size W w')
    (HS : ∀ W, Below w.heap.size w W → Calls Try.prog 14 #[.agg e1.arr, .agg m1.arr] W fun x w' => x = .returned (.bool s) ∧ Below W.heap.size W w') :
    Calls Try.prog 9 #[.agg e.arr, .agg m.arr, .agg #[.int .u8 k, .int .i64 b, .int .i64 t, p.v]] w fun x w' => (∃ r, x = .returned (.tuple #[.agg e1.arr, .agg m1.arr, .bool r])) ∧ Below w.heap.size w w' := by
  have GC := hid HC
  have GR := hid HR
  have GS := hid HS
  clear HC HR HS
  have HX : Hid (Ob (((((w.alloc (.cells e.arr 30)).alloc (.cells m.arr 36)).alloc (.cells #[.int .u8 k, .int .i64 b, .int .i64 t, p.v] 35)).alloc zeroEc).alloc zeroE) (w.heap.size) 30 e) := hid (laid5_0 w (.cells e.arr 30) (.cells m.arr 36) (.cells #[.int .u8 k, .int .i64 b, .int .i64 t, p.v] 35) zeroEc zeroE)
  have HY : Hid (Ob (((((w.alloc (.cells e.arr 30)).alloc (.cells m.arr 36)).alloc (.cells #[.int .u8 k, .int .i64 b, .int .i64 t, p.v] 35)).alloc zeroEc).alloc zeroE) (w.heap.size + 1) 36 m) := hid (laid5_1 w (.cells e.arr 30) (.cells m.arr 36) (.cells #[.int .u8 k, .int .i64 b, .int .i64 t, p.v] 35) zeroEc zeroE)
  have HA : Hid ((((((w.alloc (.cells e.arr 30)).alloc (.cells m.arr 36)).alloc (.cells #[.int .u8 k, .int .i64 b, .int .i64 t, p.v] 35)).alloc zeroEc).alloc zeroE).heap[w.heap.size + 2]? = some ((.cells #[.int .u8 k, .int .i64 b, .int .i64 t, p.v] 35))) := hid (laid5_2 w (.cells e.arr 30) (.cells m.arr 36) (.cells #[.int .u8 k, .int .i64 b, .int .i64 t, p.v] 35) zeroEc zeroE)
  have HZ : Hid (Ob (((((w.alloc (.cells e.arr 30)).alloc (.cells m.arr 36)).alloc (.cells #[.int .u8 k, .int .i64 b, .int .i64 t, p.v] 35)).alloc zeroEc).alloc zeroE) (w.heap.size + 3) 30 zE) := hid (laid5_3 w (.cells e.arr 30) (.cells m.arr 36) (.cells #[.int .u8 k, .int .i64 b, .int .i64 t, p.v] 35) zeroEc zeroE)
  have HV : Hid (Ob (((((w.alloc (.cells e.arr 30)).alloc (.cells m.arr 36)).alloc (.cells #[.int .u8 k, .int .i64 b, .int .i64 t, p.v] 35)).alloc zeroEc).alloc zeroE) (w.heap.size + 4) 36 zE) := hid (laid5_4 w (.cells e.arr 30) (.cells m.arr 36) (.cells #[.int .u8 k, .int .i64 b, .int .i64 t, p.v] 35) zeroEc zeroE)
  have HW : Hid (Below w.heap.size w (((((w.alloc (.cells e.arr 30)).alloc (.cells m.arr 36)).alloc (.cells #[.int .u8 k, .int .i64 b, .int .i64 t, p.v] 35)).alloc zeroEc).alloc zeroE)) := hid (laid5_b w (.cells e.arr 30) (.cells m.arr 36) (.cells #[.int .u8 k, .int .i64 b, .int .i64 t, p.v] 35) zeroEc zeroE)
  have tok : Hid (0 = 0) := hid rfl
  go_enter Try.func9, Try.ntmps9
  go_wp2_with (first
    | (clear tok; (with_reducible refine opaqueW (((((w.alloc (.cells e.arr 30)).alloc (.cells m.arr 36)).alloc (.cells #[.int .u8 k, .int .i64 b, .int .i64 t, p.v] 35)).alloc zeroEc).alloc zeroE) ?_); intro W0 hW; rw [← hW] at HX HY HA HZ HV HW; clear hW; have kA0 : W0.cell? ⟨w.heap.size + 2, 0, none⟩ = some (.int .u8 k) := (cellAt' HA.out 0).trans rfl; have kA1 : W0.cell? ⟨w.heap.size + 2, 1, none⟩ = some (.int .i64 b) := (cellAt' HA.out 1).trans rfl; have kA2 : W0.cell? ⟨w.heap.size + 2, 2, none⟩ = some (.int .i64 t) := (cellAt' HA.out 2).trans rfl; have kA3 : W0.cell? ⟨w.heap.size + 2, 3, none⟩ = some (.slice p.a p.n p.c) := (cellAt' HA.out 3).trans rfl)
    | ((with_reducible refine loadC (x := ?lx1) (b := ?lb1) (T := 30) e ?lg1 ?lo1 ?lxx1 ?lc1 ?lh1); (case lg1 => rfl); (case lo1 => rfl); (case lxx1 => rfl); (case lc1 => exact HX.out)))
  go_at_call 25
  refine (GC.out _ HW.out).mono ?_
  rintro x w1 ⟨rfl, hB⟩
  have GX : Hid (Ob w1 (w.heap.size) 30 e) := hid (heapB (HX.out) hB (Array.getElem?_eq_some_iff.1 (HX.out)).1)
  have GY : Hid (Ob w1 (w.heap.size + 1) 36 m) := hid (heapB (HY.out) hB (Array.getElem?_eq_some_iff.1 (HY.out)).1)
  have GA : Hid (w1.heap[w.heap.size + 2]? = some ((.cells #[.int .u8 k, .int .i64 b, .int .i64 t, p.v] 35))) := hid (heapB (HA.out) hB (Array.getElem?_eq_some_iff.1 (HA.out)).1)
  have GZ : Hid (Ob w1 (w.heap.size + 3) 30 zE) := hid (heapB (HZ.out) hB (Array.getElem?_eq_some_iff.1 (HZ.out)).1)
  have GV : Hid (Ob w1 (w.heap.size + 4) 36 zE) := hid (heapB (HV.out) hB (Array.getElem?_eq_some_iff.1 (HV.out)).1)
  have GW := hid ((HW.out).trans (hB.mono (HW.out).size))
  clear kA0 kA1 kA2 kA3
  clear hB HX HY HA HZ HV HW
  have HX := GX; clear GX
  have HY := GY; clear GY
  have HA := GA; clear GA
  have HZ := GZ; clear GZ
  have HV := GV; clear GV
  have HW := GW; clear GW
  have kA0 : w1.cell? ⟨w.heap.size + 2, 0, none⟩ = some (.int .u8 k) := (cellAt' HA.out 0).trans rfl
  have kA1 : w1.cell? ⟨w.heap.size + 2, 1, none⟩ = some (.int .i64 b) := (cellAt' HA.out 1).trans rfl
  have kA2 : w1.cell? ⟨w.heap.size + 2, 2, none⟩ = some (.int .i64 t) := (cellAt' HA.out 2).trans rfl
  have kA3 : w1.cell? ⟨w.heap.size + 2, 3, none⟩ = some (.slice p.a p.n p.c) := (cellAt' HA.out 3).trans rfl
  go_wp2_with (first
    | ((with_reducible refine uponStore (e := e1) (Ob.room HX.out) ?_); intro w2 hO hU; have GX := hid hO; have GY : Hid (Ob w2 (w.heap.size + 1) 36 m) := hid (hU.ob (HY.out) (by omega)); have GA : Hid (w2.heap[w.heap.size + 2]? = some ((.cells #[.int .u8 k, .int .i64 b, .int .i64 t, p.v] 35))) := hid (hU.ob (HA.out) (by omega)); have GZ : Hid (Ob w2 (w.heap.size + 3) 30 zE) := hid (hU.ob (HZ.out) (by omega)); have GV : Hid (Ob w2 (w.heap.size + 4) 36 zE) := hid (hU.ob (HV.out) (by omega)); have GW := hid ((HW.out).trans (hU.below _ (by first | exact Nat.le_refl _ | omega))); clear hO hU; clear kA0 kA1 kA2 kA3; clear HX HY HA HZ HV HW; have HX := GX; clear GX; have HY := GY; clear GY; have HA := GA; clear GA; have HZ := GZ; clear GZ; have HV := GV; clear GV; have HW := GW; clear GW; have kA0 : w2.cell? ⟨w.heap.size + 2, 0, none⟩ = some (.int .u8 k) := (cellAt' HA.out 0).trans rfl; have kA1 : w2.cell? ⟨w.heap.size + 2, 1, none⟩ = some (.int .i64 b) := (cellAt' HA.out 1).trans rfl; have kA2 : w2.cell? ⟨w.heap.size + 2, 2, none⟩ = some (.int .i64 t) := (cellAt' HA.out 2).trans rfl; have kA3 : w2.cell? ⟨w.heap.size + 2, 3, none⟩ = some (.slice p.a p.n p.c) := (cellAt' HA.out 3).trans rfl)
    | ((with_reducible refine loadR (x := ?lx2) (b := ?lb2) (T := 36) m ?lg2 ?lo2 ?lxx2 ?lc2 ?lh2); (case lg2 => rfl); (case lo2 => rfl); (case lxx2 => rfl); (case lc2 => exact HY.out)))
  go_at_call 28
  refine (GR.out _ HW.out).mono ?_
  rintro x w3 ⟨rfl, hB⟩
  have GX : Hid (Ob w3 (w.heap.size) 30 e1) := hid (heapB (HX.out) hB (Array.getElem?_eq_some_iff.1 (HX.out)).1)
  have GY : Hid (Ob w3 (w.heap.size + 1) 36 m) := hid (heapB (HY.out) hB (Array.getElem?_eq_some_iff.1 (HY.out)).1)
  have GA : Hid (w3.heap[w.heap.size + 2]? = some ((.cells #[.int .u8 k, .int .i64 b, .int .i64 t, p.v] 35))) := hid (heapB (HA.out) hB (Array.getElem?_eq_some_iff.1 (HA.out)).1)
  have GZ : Hid (Ob w3 (w.heap.size + 3) 30 zE) := hid (heapB (HZ.out) hB (Array.getElem?_eq_some_iff.1 (HZ.out)).1)
  have GV : Hid (Ob w3 (w.heap.size + 4) 36 zE) := hid (heapB (HV.out) hB (Array.getElem?_eq_some_iff.1 (HV.out)).1)
  have GW := hid ((HW.out).trans (hB.mono (HW.out).size))
  clear kA0 kA1 kA2 kA3
  clear hB HX HY HA HZ HV HW
  have HX := GX; clear GX
  have HY := GY; clear GY
  have HA := GA; clear GA
  have HZ := GZ; clear GZ
  have HV := GV; clear GV
  have HW := GW; clear GW
  have kA0 : w3.cell? ⟨w.heap.size + 2, 0, none⟩ = some (.int .u8 k) := (cellAt' HA.out 0).trans rfl
  have kA1 : w3.cell? ⟨w.heap.size + 2, 1, none⟩ = some (.int .i64 b) := (cellAt' HA.out 1).trans rfl
  have kA2 : w3.cell? ⟨w.heap.size + 2, 2, none⟩ = some (.int .i64 t) := (cellAt' HA.out 2).trans rfl
  have kA3 : w3.cell? ⟨w.heap.size + 2, 3, none⟩ = some (.slice p.a p.n p.c) := (cellAt' HA.out 3).trans rfl
  go_wp2_with (first
    | ((with_reducible refine uponStore (e := m1) (Ob.room HY.out) ?_); intro w4 hO hU; have GY := hid hO; have GX : Hid (Ob w4 (w.heap.size) 30 e1) := hid (hU.ob (HX.out) (by omega)); have GA : Hid (w4.heap[w.heap.size + 2]? = some ((.cells #[.int .u8 k, .int .i64 b, .int .i64 t, p.v] 35))) := hid (hU.ob (HA.out) (by omega)); have GZ : Hid (Ob w4 (w.heap.size + 3) 30 zE) := hid (hU.ob (HZ.out) (by omega)); have GV : Hid (Ob w4 (w.heap.size + 4) 36 zE) := hid (hU.ob (HV.out) (by omega)); have GW := hid ((HW.out).trans (hU.below _ (by first | exact Nat.le_refl _ | omega))); clear hO hU; clear kA0 kA1 kA2 kA3; clear HX HY HA HZ HV HW; have HX := GX; clear GX; have HY := GY; clear GY; have HA := GA; clear GA; have HZ := GZ; clear GZ; have HV := GV; clear GV; have HW := GW; clear GW; have kA0 : w4.cell? ⟨w.heap.size + 2, 0, none⟩ = some (.int .u8 k) := (cellAt' HA.out 0).trans rfl; have kA1 : w4.cell? ⟨w.heap.size + 2, 1, none⟩ = some (.int .i64 b) := (cellAt' HA.out 1).trans rfl; have kA2 : w4.cell? ⟨w.heap.size + 2, 2, none⟩ = some (.int .i64 t) := (cellAt' HA.out 2).trans rfl; have kA3 : w4.cell? ⟨w.heap.size + 2, 3, none⟩ = some (.slice p.a p.n p.c) := (cellAt' HA.out 3).trans rfl)
    | ((with_reducible refine loadC (x := ?lx3) (b := ?lb3) (T := 30) e1 ?lg3 ?lo3 ?lxx3 ?lc3 ?lh3); (case lg3 => rfl); (case lo3 => rfl); (case lxx3 => rfl); (case lc3 => exact HX.out))
    | ((with_reducible refine loadR (x := ?lx4) (b := ?lb4) (T := 36) m1 ?lg4 ?lo4 ?lxx4 ?lc4 ?lh4); (case lg4 => rfl); (case lo4 => rfl); (case lxx4 => rfl); (case lc4 => exact HY.out)))
  go_at_call 14
  refine (GS.out _ HW.out).mono ?_
  rintro x w5 ⟨rfl, hB⟩
  have GX : Hid (Ob w5 (w.heap.size) 30 e1) := hid (heapB (HX.out) hB (Array.getElem?_eq_some_iff.1 (HX.out)).1)
  have GY : Hid (Ob w5 (w.heap.size + 1) 36 m1) := hid (heapB (HY.out) hB (Array.getElem?_eq_some_iff.1 (HY.out)).1)
  have GA : Hid (w5.heap[w.heap.size + 2]? = some ((.cells #[.int .u8 k, .int .i64 b, .int .i64 t, p.v] 35))) := hid (heapB (HA.out) hB (Array.getElem?_eq_some_iff.1 (HA.out)).1)
  have GZ : Hid (Ob w5 (w.heap.size + 3) 30 zE) := hid (heapB (HZ.out) hB (Array.getElem?_eq_some_iff.1 (HZ.out)).1)
  have GV : Hid (Ob w5 (w.heap.size + 4) 36 zE) := hid (heapB (HV.out) hB (Array.getElem?_eq_some_iff.1 (HV.out)).1)
  have GW := hid ((HW.out).trans (hB.mono (HW.out).size))
  clear kA0 kA1 kA2 kA3
  clear hB HX HY HA HZ HV HW
  have HX := GX; clear GX
  have HY := GY; clear GY
  have HA := GA; clear GA
  have HZ := GZ; clear GZ
  have HV := GV; clear GV
  have HW := GW; clear GW
  have kA0 : w5.cell? ⟨w.heap.size + 2, 0, none⟩ = some (.int .u8 k) := (cellAt' HA.out 0).trans rfl
  have kA1 : w5.cell? ⟨w.heap.size + 2, 1, none⟩ = some (.int .i64 b) := (cellAt' HA.out 1).trans rfl
  have kA2 : w5.cell? ⟨w.heap.size + 2, 2, none⟩ = some (.int .i64 t) := (cellAt' HA.out 2).trans rfl
  have kA3 : w5.cell? ⟨w.heap.size + 2, 3, none⟩ = some (.slice p.a p.n p.c) := (cellAt' HA.out 3).trans rfl
  go_wp2_with fail
  clear GC GR GS
  cases s with
  | false =>
    refine ra_start (n := 11) (listed := #[false, false, false, false, false, false, false, false, false, false, false]) (by kernel_rfl) rfl rfl ?_
    refine ra_take (i := 2) (o := ?o5) (v := ?v5) (listed' := ?l5) (a' := ?a5) ?hi5 (by kernel_rfl) (by kernel_rfl) (by kernel_rfl) ?hq5 ?hl5 ?hw5 ?hv5 ?ha5 ?hh5
    case hi5 => (simp only [List.getElem?_toArray, List.getElem?_cons_succ, List.getElem?_cons_zero]; try rfl)
    case hq5 => exact fun _ _ _ h => h
    case hl5 => (simp only [List.setIfInBounds_toArray, List.set_cons_succ, List.set_cons_zero]; try rfl)
    case hw5 => rfl
    case hv5 =>
      intro w
      go_simp
      try with_reducible rfl
    case ha5 => (simp only [Act.put, List.setIfInBounds_toArray, List.set_cons_succ, List.set_cons_zero]; try rfl)
    refine ra_take (i := 3) (o := ?o6) (v := ?v6) (listed' := ?l6) (a' := ?a6) ?hi6 (by kernel_rfl) (by kernel_rfl) (by kernel_rfl) ?hq6 ?hl6 ?hw6 ?hv6 ?ha6 ?hh6
    case hi6 => (simp only [List.getElem?_toArray, List.getElem?_cons_succ, List.getElem?_cons_zero]; try rfl)
    case hq6 => exact fun _ _ _ h => h
    case hl6 => (simp only [List.setIfInBounds_toArray, List.set_cons_succ, List.set_cons_zero]; try rfl)
    case hw6 => rfl
    case hv6 =>
      intro w
      go_simp
      try with_reducible rfl
    case ha6 => (simp only [Act.put, List.setIfInBounds_toArray, List.set_cons_succ, List.set_cons_zero]; try rfl)
    refine ra_skip (i := 4) (o := ?o7) (listed' := ?l7) (a' := ?a7) ?hi7 (by kernel_rfl) (by kernel_rfl) (by kernel_rfl) ?hq7 ?hl7 ?hw7 ?ha7 ?hh7
    case hi7 => (simp only [List.getElem?_toArray, List.getElem?_cons_succ, List.getElem?_cons_zero]; try rfl)
    case hq7 => exact fun _ _ _ h => h
    case hl7 => (simp only [List.setIfInBounds_toArray, List.set_cons_succ, List.set_cons_zero]; try rfl)
    case hw7 => rfl
    case ha7 => (simp only [Act.put, List.setIfInBounds_toArray, List.set_cons_succ, List.set_cons_zero]; try rfl)
    refine ra_skip (i := 5) (o := ?o8) (listed' := ?l8) (a' := ?a8) ?hi8 (by kernel_rfl) (by kernel_rfl) (by kernel_rfl) ?hq8 ?hl8 ?hw8 ?ha8 ?hh8
    case hi8 => (simp only [List.getElem?_toArray, List.getElem?_cons_succ, List.getElem?_cons_zero]; try rfl)
    case hq8 => exact fun _ _ _ h => h
    case hl8 => (simp only [List.setIfInBounds_toArray, List.set_cons_succ, List.set_cons_zero]; try rfl)
    case hw8 => rfl
    case ha8 => (simp only [Act.put, List.setIfInBounds_toArray, List.set_cons_succ, List.set_cons_zero]; try rfl)
    refine ra_skip (i := 6) (o := ?o9) (listed' := ?l9) (a' := ?a9) ?hi9 (by kernel_rfl) (by kernel_rfl) (by kernel_rfl) ?hq9 ?hl9 ?hw9 ?ha9 ?hh9
    case hi9 => (simp only [List.getElem?_toArray, List.getElem?_cons_succ, List.getElem?_cons_zero]; try rfl)
    case hq9 => exact fun _ _ _ h => h
    case hl9 => (simp only [List.setIfInBounds_toArray, List.set_cons_succ, List.set_cons_zero]; try rfl)
    case hw9 => rfl
    case ha9 => (simp only [Act.put, List.setIfInBounds_toArray, List.set_cons_succ, List.set_cons_zero]; try rfl)
    refine ra_take (i := 7) (o := ?o10) (v := ?v10) (listed' := ?l10) (a' := ?a10) ?hi10 (by kernel_rfl) (by kernel_rfl) (by kernel_rfl) ?hq10 ?hl10 ?hw10 ?hv10 ?ha10 ?hh10
    case hi10 => (simp only [List.getElem?_toArray, List.getElem?_cons_succ, List.getElem?_cons_zero]; try rfl)
    case hq10 => exact fun _ _ _ h => h
    case hl10 => (simp only [List.setIfInBounds_toArray, List.set_cons_succ, List.set_cons_zero]; try rfl)
    case hw10 => rfl
    case hv10 =>
      intro w
      go_simp
      try with_reducible rfl
    case ha10 => (simp only [Act.put, List.setIfInBounds_toArray, List.set_cons_succ, List.set_cons_zero]; try rfl)
    refine wpAny_ready (rs := [0, 1]) (by kernel_rfl) (by simp) ?_
    with_reducible refine ra_loadC (o := ?o11) (listed' := ?l11) (a' := ?a11) (x := ?x11) (b := ?b11) (T := 30) e1 ?hi11 ?hl11 ?hg11 ?ho11 ?hx11 ?hc11 ?ha11 ?hh11 ?hs11
    case hi11 => (simp only [List.getElem?_toArray, List.getElem?_cons_zero]; try rfl)
    case hl11 => (simp only [List.setIfInBounds_toArray, List.set_cons_zero]; try rfl)
    case hg11 => rfl
    case ho11 => rfl
    case hx11 => rfl
    case hc11 => exact (obDrew HX.out)
    case ha11 => (simp only [Act.put, List.setIfInBounds_toArray, List.set_cons_succ, List.set_cons_zero]; try rfl)
    case hs11 =>
      with_reducible refine ra_loadR (o := ?o12) (listed' := ?l12) (a' := ?a12) (x := ?x12) (b := ?b12) (T := 36) m1 ?hi12 ?hl12 ?hg12 ?ho12 ?hx12 ?hc12 ?ha12 ?hh12 ?hs12
      case hi12 => (simp only [List.getElem?_toArray, List.getElem?_cons_succ, List.getElem?_cons_zero]; try rfl)
      case hl12 => (simp only [List.setIfInBounds_toArray, List.set_cons_succ, List.set_cons_zero]; try rfl)
      case hg12 => rfl
      case ho12 => rfl
      case hx12 => rfl
      case hc12 => exact (obDrew HY.out)
      case ha12 => (simp only [Act.put, List.setIfInBounds_toArray, List.set_cons_succ, List.set_cons_zero]; try rfl)
      case hs12 =>
        exact AllReady.nil
      refine wpAny_ready (rs := [0]) (by kernel_rfl) (by simp) ?_
      with_reducible refine ra_loadC (o := ?o13) (listed' := ?l13) (a' := ?a13) (x := ?x13) (b := ?b13) (T := 30) e1 ?hi13 ?hl13 ?hg13 ?ho13 ?hx13 ?hc13 ?ha13 ?hh13 ?hs13
      case hi13 => (simp only [List.getElem?_toArray, List.getElem?_cons_zero]; try rfl)
      case hl13 => (simp only [List.setIfInBounds_toArray, List.set_cons_zero]; try rfl)
      case hg13 => rfl
      case ho13 => rfl
      case hx13 => rfl
      case hc13 => exact (obDrew HX.out)
      case ha13 => (simp only [Act.put, List.setIfInBounds_toArray, List.set_cons_succ, List.set_cons_zero]; try rfl)
      case hs13 =>
        exact AllReady.nil
      refine wpAny_ready (rs := [8]) (by kernel_rfl) (by simp) ?_
      with_reducible refine ra_storeC (o := ?o14) (listed' := ?l14) (x := ?x14) (y := ?y14) (b := ?b14) (T := 30) e1 ?hi14 ?hl14 ?hg14 ?ho14 ?hx14 ?hy14 ?hd14 ?hc14 ?hh14 ?hs14
      case hi14 => (simp only [List.getElem?_toArray, List.getElem?_cons_succ, List.getElem?_cons_zero]; try rfl)
      case hl14 => (simp only [List.setIfInBounds_toArray, List.set_cons_succ, List.set_cons_zero]; try rfl)
      case hg14 => rfl
      case ho14 => rfl
      case hx14 => rfl
      case hy14 => rfl
      case hd14 => rfl
      case hc14 => exact Ob.room (obDrew HZ.out)
      case hs14 =>
        exact AllReady.nil
      intro w7 hO hU
      have GZ := hid hO
      have GX : Hid (Ob w7 (w.heap.size) 30 e1) := hid (hU.ob ((obDrew HX.out)) (by omega))
      have GY : Hid (Ob w7 (w.heap.size + 1) 36 m1) := hid (hU.ob ((obDrew HY.out)) (by omega))
      have GA : Hid (w7.heap[w.heap.size + 2]? = some ((.cells #[.int .u8 k, .int .i64 b, .int .i64 t, p.v] 35))) := hid (hU.ob ((obDrew HA.out)) (by omega))
      have GV : Hid (Ob w7 (w.heap.size + 4) 36 zE) := hid (hU.ob ((obDrew HV.out)) (by omega))
      have GW := hid (((belowDrew HW.out)).trans (hU.below _ (by first | exact Nat.le_refl _ | omega)))
      clear hO hU
      clear kA0 kA1 kA2 kA3
      clear HX HY HA HZ HV HW
      have HX := GX
      clear GX
      have HY := GY
      clear GY
      have HA := GA
      clear GA
      have HZ := GZ
      clear GZ
      have HV := GV
      clear GV
      have HW := GW
      clear GW
      refine wpAny_ready (rs := [9]) (by kernel_rfl) (by simp) ?_
      with_reducible refine ra_storeR (o := ?o15) (listed' := ?l15) (x := ?x15) (y := ?y15) (b := ?b15) (T := 36) m1 ?hi15 ?hl15 ?hg15 ?ho15 ?hx15 ?hy15 ?hd15 ?hc15 ?hh15 ?hs15
      case hi15 => (simp only [List.getElem?_toArray, List.getElem?_cons_succ, List.getElem?_cons_zero]; try rfl)
      case hl15 => (simp only [List.setIfInBounds_toArray, List.set_cons_succ, List.set_cons_zero]; try rfl)
      case hg15 => rfl
      case ho15 => rfl
      case hx15 => rfl
      case hy15 => rfl
      case hd15 => rfl
      case hc15 => exact Ob.room HV.out
      case hs15 =>
        exact AllReady.nil
      intro w8 hO hU
      have GV := hid hO
      have GX : Hid (Ob w8 (w.heap.size) 30 e1) := hid (hU.ob (HX.out) (by omega))
      have GY : Hid (Ob w8 (w.heap.size + 1) 36 m1) := hid (hU.ob (HY.out) (by omega))
      have GA : Hid (w8.heap[w.heap.size + 2]? = some ((.cells #[.int .u8 k, .int .i64 b, .int .i64 t, p.v] 35))) := hid (hU.ob (HA.out) (by omega))
      have GZ : Hid (Ob w8 (w.heap.size + 3) 30 e1) := hid (hU.ob (HZ.out) (by omega))
      have GW := hid ((HW.out).trans (hU.below _ (by first | exact Nat.le_refl _ | omega)))
      clear hO hU
      clear HX HY HA HZ HV HW
      have HX := GX
      clear GX
      have HY := GY
      clear GY
      have HA := GA
      clear GA
      have HZ := GZ
      clear GZ
      have HV := GV
      clear GV
      have HW := GW
      clear GW
      refine wpAny_ready (rs := [10]) (by kernel_rfl) (by simp) ?_
      with_reducible refine ra_assign (o := ?o16) (listed' := ?l16) (a' := ?a16) (x := ?x16) (v := ?v16) ?hi16 ?hl16 ?hg16 ?ho16 ?hv16 ?ha16 ?hh16 ?hs16
      case hi16 => (simp only [List.getElem?_toArray, List.getElem?_cons_succ, List.getElem?_cons_zero]; try rfl)
      case hl16 => (simp only [List.setIfInBounds_toArray, List.set_cons_succ, List.set_cons_zero]; try rfl)
      case hg16 => rfl
      case ho16 => rfl
      case hv16 => rfl
      case ha16 => (simp only [Act.put, List.setIfInBounds_toArray, List.set_cons_succ, List.set_cons_zero]; try rfl)
      case hs16 =>
        exact AllReady.nil
      refine wpAny_done (by kernel_rfl) ?_ _
      go_wp2_with fail
      refine bodyPost_ret (ret_cell2_tmp rfl rfl rfl rfl (HZ.out).range Try.underlying30 rfl (infoEc e1) (HV.out).range Try.underlying36 rfl (infoE m1)) rfl ⟨⟨_, rfl⟩, HW.out⟩
    refine wpAny_ready (rs := [1, 8]) (by kernel_rfl) (by simp) ?_
    with_reducible refine ra_loadR (o := ?o17) (listed' := ?l17) (a' := ?a17) (x := ?x17) (b := ?b17) (T := 36) m1 ?hi17 ?hl17 ?hg17 ?ho17 ?hx17 ?hc17 ?ha17 ?hh17 ?hs17
    case hi17 => (simp only [List.getElem?_toArray, List.getElem?_cons_succ, List.getElem?_cons_zero]; try rfl)
    case hl17 => (simp only [List.setIfInBounds_toArray, List.set_cons_succ, List.set_cons_zero]; try rfl)
    case hg17 => rfl
    case ho17 => rfl
    case hx17 => rfl
    case hc17 => exact (obDrew HY.out)
    case ha17 => (simp only [Act.put, List.setIfInBounds_toArray, List.set_cons_succ, List.set_cons_zero]; try rfl)
    case hs17 =>
      with_reducible refine ra_storeC (o := ?o18) (listed' := ?l18) (x := ?x18) (y := ?y18) (b := ?b18) (T := 30) e1 ?hi18 ?hl18 ?hg18 ?ho18 ?hx18 ?hy18 ?hd18 ?hc18 ?hh18 ?hs18
      case hi18 => (simp only [List.getElem?_toArray, List.getElem?_cons_succ, List.getElem?_cons_zero]; try rfl)
      case hl18 => (simp only [List.setIfInBounds_toArray, List.set_cons_succ, List.set_cons_zero]; try rfl)
      case hg18 => rfl
      case ho18 => rfl
      case hx18 => rfl
      case hy18 => rfl
      case hd18 => rfl
      case hc18 => exact Ob.room (obDrew HZ.out)
      case hs18 =>
        exact AllReady.nil
      intro w9 hO hU
      have GZ := hid hO
      have GX : Hid (Ob w9 (w.heap.size) 30 e1) := hid (hU.ob ((obDrew HX.out)) (by omega))
      have GY : Hid (Ob w9 (w.heap.size + 1) 36 m1) := hid (hU.ob ((obDrew HY.out)) (by omega))
      have GA : Hid (w9.heap[w.heap.size + 2]? = some ((.cells #[.int .u8 k, .int .i64 b, .int .i64 t, p.v] 35))) := hid (hU.ob ((obDrew HA.out)) (by omega))
      have GV : Hid (Ob w9 (w.heap.size + 4) 36 zE) := hid (hU.ob ((obDrew HV.out)) (by omega))
      have GW := hid (((belowDrew HW.out)).trans (hU.below _ (by first | exact Nat.le_refl _ | omega)))
      clear hO hU
      clear kA0 kA1 kA2 kA3
      clear HX HY HA HZ HV HW
      have HX := GX
      clear GX
      have HY := GY
      clear GY
      have HA := GA
      clear GA
      have HZ := GZ
      clear GZ
      have HV := GV
      clear GV
      have HW := GW
      clear GW
      refine wpAny_ready (rs := [1]) (by kernel_rfl) (by simp) ?_
      with_reducible refine ra_loadR (o := ?o19) (listed' := ?l19) (a' := ?a19) (x := ?x19) (b := ?b19) (T := 36) m1 ?hi19 ?hl19 ?hg19 ?ho19 ?hx19 ?hc19 ?ha19 ?hh19 ?hs19
      case hi19 => (simp only [List.getElem?_toArray, List.getElem?_cons_succ, List.getElem?_cons_zero]; try rfl)
      case hl19 => (simp only [List.setIfInBounds_toArray, List.set_cons_succ, List.set_cons_zero]; try rfl)
      case hg19 => rfl
      case ho19 => rfl
      case hx19 => rfl
      case hc19 => exact HY.out
      case ha19 => (simp only [Act.put, List.setIfInBounds_toArray, List.set_cons_succ, List.set_cons_zero]; try rfl)
      case hs19 =>
        exact AllReady.nil
      refine wpAny_ready (rs := [9]) (by kernel_rfl) (by simp) ?_
      with_reducible refine ra_storeR (o := ?o20) (listed' := ?l20) (x := ?x20) (y := ?y20) (b := ?b20) (T := 36) m1 ?hi20 ?hl20 ?hg20 ?ho20 ?hx20 ?hy20 ?hd20 ?hc20 ?hh20 ?hs20
      case hi20 => (simp only [List.getElem?_toArray, List.getElem?_cons_succ, List.getElem?_cons_zero]; try rfl)
      case hl20 => (simp only [List.setIfInBounds_toArray, List.set_cons_succ, List.set_cons_zero]; try rfl)
      case hg20 => rfl
      case ho20 => rfl
      case hx20 => rfl
      case hy20 => rfl
      case hd20 => rfl
      case hc20 => exact Ob.room HV.out
      case hs20 =>
        exact AllReady.nil
      intro w10 hO hU
      have GV := hid hO
      have GX : Hid (Ob w10 (w.heap.size) 30 e1) := hid (hU.ob (HX.out) (by omega))
      have GY : Hid (Ob w10 (w.heap.size + 1) 36 m1) := hid (hU.ob (HY.out) (by omega))
      have GA : Hid (w10.heap[w.heap.size + 2]? = some ((.cells #[.int .u8 k, .int .i64 b, .int .i64 t, p.v] 35))) := hid (hU.ob (HA.out) (by omega))
      have GZ : Hid (Ob w10 (w.heap.size + 3) 30 e1) := hid (hU.ob (HZ.out) (by omega))
      have GW := hid ((HW.out).trans (hU.below _ (by first | exact Nat.le_refl _ | omega)))
      clear hO hU
      clear HX HY HA HZ HV HW
      have HX := GX
      clear GX
      have HY := GY
      clear GY
      have HA := GA
      clear GA
      have HZ := GZ
      clear GZ
      have HV := GV
      clear GV
      have HW := GW
      clear GW
      refine wpAny_ready (rs := [10]) (by kernel_rfl) (by simp) ?_
      with_reducible refine ra_assign (o := ?o21) (listed' := ?l21) (a' := ?a21) (x := ?x21) (v := ?v21) ?hi21 ?hl21 ?hg21 ?ho21 ?hv21 ?ha21 ?hh21 ?hs21
      case hi21 => (simp only [List.getElem?_toArray, List.getElem?_cons_succ, List.getElem?_cons_zero]; try rfl)
      case hl21 => (simp only [List.setIfInBounds_toArray, List.set_cons_succ, List.set_cons_zero]; try rfl)
      case hg21 => rfl
      case ho21 => rfl
      case hv21 => rfl
      case ha21 => (simp only [Act.put, List.setIfInBounds_toArray, List.set_cons_succ, List.set_cons_zero]; try rfl)
      case hs21 =>
        exact AllReady.nil
      refine wpAny_done (by kernel_rfl) ?_ _
      go_wp2_with fail
      refine bodyPost_ret (ret_cell2_tmp rfl rfl rfl rfl (HZ.out).range Try.underlying30 rfl (infoEc e1) (HV.out).range Try.underlying36 rfl (infoE m1)) rfl ⟨⟨_, rfl⟩, HW.out⟩
    refine wpAny_ready (rs := [8]) (by kernel_rfl) (by simp) ?_
    with_reducible refine ra_storeC (o := ?o22) (listed' := ?l22) (x := ?x22) (y := ?y22) (b := ?b22) (T := 30) e1 ?hi22 ?hl22 ?hg22 ?ho22 ?hx22 ?hy22 ?hd22 ?hc22 ?hh22 ?hs22
    case hi22 => (simp only [List.getElem?_toArray, List.getElem?_cons_succ, List.getElem?_cons_zero]; try rfl)
    case hl22 => (simp only [List.setIfInBounds_toArray, List.set_cons_succ, List.set_cons_zero]; try rfl)
    case hg22 => rfl
    case ho22 => rfl
    case hx22 => rfl
    case hy22 => rfl
    case hd22 => rfl
    case hc22 => exact Ob.room (obDrew HZ.out)
    case hs22 =>
      exact AllReady.nil
    intro w11 hO hU
    have GZ := hid hO
    have GX : Hid (Ob w11 (w.heap.size) 30 e1) := hid (hU.ob ((obDrew HX.out)) (by omega))
    have GY : Hid (Ob w11 (w.heap.size + 1) 36 m1) := hid (hU.ob ((obDrew HY.out)) (by omega))
    have GA : Hid (w11.heap[w.heap.size + 2]? = some ((.cells #[.int .u8 k, .int .i64 b, .int .i64 t, p.v] 35))) := hid (hU.ob ((obDrew HA.out)) (by omega))
    have GV : Hid (Ob w11 (w.heap.size + 4) 36 zE) := hid (hU.ob ((obDrew HV.out)) (by omega))
    have GW := hid (((belowDrew HW.out)).trans (hU.below _ (by first | exact Nat.le_refl _ | omega)))
    clear hO hU
    clear kA0 kA1 kA2 kA3
    clear HX HY HA HZ HV HW
    have HX := GX
    clear GX
    have HY := GY
    clear GY
    have HA := GA
    clear GA
    have HZ := GZ
    clear GZ
    have HV := GV
    clear GV
    have HW := GW
    clear GW
    refine wpAny_ready (rs := [9]) (by kernel_rfl) (by simp) ?_
    with_reducible refine ra_storeR (o := ?o23) (listed' := ?l23) (x := ?x23) (y := ?y23) (b := ?b23) (T := 36) m1 ?hi23 ?hl23 ?hg23 ?ho23 ?hx23 ?hy23 ?hd23 ?hc23 ?hh23 ?hs23
    case hi23 => (simp only [List.getElem?_toArray, List.getElem?_cons_succ, List.getElem?_cons_zero]; try rfl)
    case hl23 => (simp only [List.setIfInBounds_toArray, List.set_cons_succ, List.set_cons_zero]; try rfl)
    case hg23 => rfl
    case ho23 => rfl
    case hx23 => rfl
    case hy23 => rfl
    case hd23 => rfl
    case hc23 => exact Ob.room HV.out
    case hs23 =>
      exact AllReady.nil
    intro w12 hO hU
    have GV := hid hO
    have GX : Hid (Ob w12 (w.heap.size) 30 e1) := hid (hU.ob (HX.out) (by omega))
    have GY : Hid (Ob w12 (w.heap.size + 1) 36 m1) := hid (hU.ob (HY.out) (by omega))
    have GA : Hid (w12.heap[w.heap.size + 2]? = some ((.cells #[.int .u8 k, .int .i64 b, .int .i64 t, p.v] 35))) := hid (hU.ob (HA.out) (by omega))
    have GZ : Hid (Ob w12 (w.heap.size + 3) 30 e1) := hid (hU.ob (HZ.out) (by omega))
    have GW := hid ((HW.out).trans (hU.below _ (by first | exact Nat.le_refl _ | omega)))
    clear hO hU
    clear HX HY HA HZ HV HW
    have HX := GX
    clear GX
    have HY := GY
    clear GY
    have HA := GA
    clear GA
    have HZ := GZ
    clear GZ
    have HV := GV
    clear GV
    have HW := GW
    clear GW
    refine wpAny_ready (rs := [10]) (by kernel_rfl) (by simp) ?_
    with_reducible refine ra_assign (o := ?o24) (listed' := ?l24) (a' := ?a24) (x := ?x24) (v := ?v24) ?hi24 ?hl24 ?hg24 ?ho24 ?hv24 ?ha24 ?hh24 ?hs24
    case hi24 => (simp only [List.getElem?_toArray, List.getElem?_cons_succ, List.getElem?_cons_zero]; try rfl)
    case hl24 => (simp only [List.setIfInBounds_toArray, List.set_cons_succ, List.set_cons_zero]; try rfl)
    case hg24 => rfl
    case ho24 => rfl
    case hv24 => rfl
    case ha24 => (simp only [Act.put, List.setIfInBounds_toArray, List.set_cons_succ, List.set_cons_zero]; try rfl)
    case hs24 =>
      exact AllReady.nil
    refine wpAny_done (by kernel_rfl) ?_ _
    go_wp2_with fail
    refine bodyPost_ret (ret_cell2_tmp rfl rfl rfl rfl (HZ.out).range Try.underlying30 rfl (infoEc e1) (HV.out).range Try.underlying36 rfl (infoE m1)) rfl ⟨⟨_, rfl⟩, HW.out⟩
  | true =>
    refine ra_start (n := 11) (listed := #[false, false, false, false, false, false, false, false, false, false, false]) (by kernel_rfl) rfl rfl ?_
    refine ra_take (i := 2) (o := ?o25) (v := ?v25) (listed' := ?l25) (a' := ?a25) ?hi25 (by kernel_rfl) (by kernel_rfl) (by kernel_rfl) ?hq25 ?hl25 ?hw25 ?hv25 ?ha25 ?hh25
    case hi25 => (simp only [List.getElem?_toArray, List.getElem?_cons_succ, List.getElem?_cons_zero]; try rfl)
    case hq25 => exact fun _ _ _ h => h
    case hl25 => (simp only [List.setIfInBounds_toArray, List.set_cons_succ, List.set_cons_zero]; try rfl)
    case hw25 => rfl
    case hv25 =>
      intro w
      go_simp
      try with_reducible rfl
    case ha25 => (simp only [Act.put, List.setIfInBounds_toArray, List.set_cons_succ, List.set_cons_zero]; try rfl)
    refine ra_take (i := 3) (o := ?o26) (v := ?v26) (listed' := ?l26) (a' := ?a26) ?hi26 (by kernel_rfl) (by kernel_rfl) (by kernel_rfl) ?hq26 ?hl26 ?hw26 ?hv26 ?ha26 ?hh26
    case hi26 => (simp only [List.getElem?_toArray, List.getElem?_cons_succ, List.getElem?_cons_zero]; try rfl)
    case hq26 => exact fun _ _ _ h => h
    case hl26 => (simp only [List.setIfInBounds_toArray, List.set_cons_succ, List.set_cons_zero]; try rfl)
    case hw26 => rfl
    case hv26 =>
      intro w
      go_simp
      try with_reducible rfl
    case ha26 => (simp only [Act.put, List.setIfInBounds_toArray, List.set_cons_succ, List.set_cons_zero]; try rfl)
    refine ra_take (i := 4) (o := ?o27) (v := ?v27) (listed' := ?l27) (a' := ?a27) ?hi27 (by kernel_rfl) (by kernel_rfl) (by kernel_rfl) ?hq27 ?hl27 ?hw27 ?hv27 ?ha27 ?hh27
    case hi27 => (simp only [List.getElem?_toArray, List.getElem?_cons_succ, List.getElem?_cons_zero]; try rfl)
    case hq27 => exact fun _ _ _ h => h
    case hl27 => (simp only [List.setIfInBounds_toArray, List.set_cons_succ, List.set_cons_zero]; try rfl)
    case hw27 => rfl
    case hv27 =>
      intro w
      go_simp
      try with_reducible rfl
    case ha27 => (simp only [Act.put, List.setIfInBounds_toArray, List.set_cons_succ, List.set_cons_zero]; try rfl)
    refine ra_take (i := 5) (o := ?o28) (v := ?v28) (listed' := ?l28) (a' := ?a28) ?hi28 (by kernel_rfl) (by kernel_rfl) (by kernel_rfl) ?hq28 ?hl28 ?hw28 ?hv28 ?ha28 ?hh28
    case hi28 => (simp only [List.getElem?_toArray, List.getElem?_cons_succ, List.getElem?_cons_zero]; try rfl)
    case hq28 => exact fun _ _ _ h => h
    case hl28 => (simp only [List.setIfInBounds_toArray, List.set_cons_succ, List.set_cons_zero]; try rfl)
    case hw28 => rfl
    case hv28 =>
      intro w
      go_simp
      try with_reducible rfl
    case ha28 => (simp only [Act.put, List.setIfInBounds_toArray, List.set_cons_succ, List.set_cons_zero]; try rfl)
    refine ra_take (i := 6) (o := ?o29) (v := ?v29) (listed' := ?l29) (a' := ?a29) ?hi29 (by kernel_rfl) (by kernel_rfl) (by kernel_rfl) ?hq29 ?hl29 ?hw29 ?hv29 ?ha29 ?hh29
    case hi29 => (simp only [List.getElem?_toArray, List.getElem?_cons_succ, List.getElem?_cons_zero]; try rfl)
    case hq29 => exact fun _ _ _ h => h
    case hl29 => (simp only [List.setIfInBounds_toArray, List.set_cons_succ, List.set_cons_zero]; try rfl)
    case hw29 => rfl
    case hv29 =>
      intro w
      go_simp
      try with_reducible rfl
    case ha29 => (simp only [Act.put, List.setIfInBounds_toArray, List.set_cons_succ, List.set_cons_zero]; try rfl)
    refine ra_take (i := 7) (o := ?o30) (v := ?v30) (listed' := ?l30) (a' := ?a30) ?hi30 (by kernel_rfl) (by kernel_rfl) (by kernel_rfl) ?hq30 ?hl30 ?hw30 ?hv30 ?ha30 ?hh30
    case hi30 => (simp only [List.getElem?_toArray, List.getElem?_cons_succ, List.getElem?_cons_zero]; try rfl)
    case hq30 => exact fun _ _ _ h => h
    case hl30 => (simp only [List.setIfInBounds_toArray, List.set_cons_succ, List.set_cons_zero]; try rfl)
    case hw30 => rfl
    case hv30 =>
      intro w
      go_simp
      try with_reducible rfl
    case ha30 => (simp only [Act.put, List.setIfInBounds_toArray, List.set_cons_succ, List.set_cons_zero]; try rfl)
    refine wpAny_ready (rs := [0, 1]) (by kernel_rfl) (by simp) ?_
    with_reducible refine ra_loadC (o := ?o31) (listed' := ?l31) (a' := ?a31) (x := ?x31) (b := ?b31) (T := 30) e1 ?hi31 ?hl31 ?hg31 ?ho31 ?hx31 ?hc31 ?ha31 ?hh31 ?hs31
    case hi31 => (simp only [List.getElem?_toArray, List.getElem?_cons_zero]; try rfl)
    case hl31 => (simp only [List.setIfInBounds_toArray, List.set_cons_zero]; try rfl)
    case hg31 => rfl
    case ho31 => rfl
    case hx31 => rfl
    case hc31 => exact (obDrew HX.out)
    case ha31 => (simp only [Act.put, List.setIfInBounds_toArray, List.set_cons_succ, List.set_cons_zero]; try rfl)
    case hs31 =>
      with_reducible refine ra_loadR (o := ?o32) (listed' := ?l32) (a' := ?a32) (x := ?x32) (b := ?b32) (T := 36) m1 ?hi32 ?hl32 ?hg32 ?ho32 ?hx32 ?hc32 ?ha32 ?hh32 ?hs32
      case hi32 => (simp only [List.getElem?_toArray, List.getElem?_cons_succ, List.getElem?_cons_zero]; try rfl)
      case hl32 => (simp only [List.setIfInBounds_toArray, List.set_cons_succ, List.set_cons_zero]; try rfl)
      case hg32 => rfl
      case ho32 => rfl
      case hx32 => rfl
      case hc32 => exact (obDrew HY.out)
      case ha32 => (simp only [Act.put, List.setIfInBounds_toArray, List.set_cons_succ, List.set_cons_zero]; try rfl)
      case hs32 =>
        exact AllReady.nil
      refine wpAny_ready (rs := [0]) (by kernel_rfl) (by simp) ?_
      with_reducible refine ra_loadC (o := ?o33) (listed' := ?l33) (a' := ?a33) (x := ?x33) (b := ?b33) (T := 30) e1 ?hi33 ?hl33 ?hg33 ?ho33 ?hx33 ?hc33 ?ha33 ?hh33 ?hs33
      case hi33 => (simp only [List.getElem?_toArray, List.getElem?_cons_zero]; try rfl)
      case hl33 => (simp only [List.setIfInBounds_toArray, List.set_cons_zero]; try rfl)
      case hg33 => rfl
      case ho33 => rfl
      case hx33 => rfl
      case hc33 => exact (obDrew HX.out)
      case ha33 => (simp only [Act.put, List.setIfInBounds_toArray, List.set_cons_succ, List.set_cons_zero]; try rfl)
      case hs33 =>
        exact AllReady.nil
      refine wpAny_ready (rs := [8]) (by kernel_rfl) (by simp) ?_
      with_reducible refine ra_storeC (o := ?o34) (listed' := ?l34) (x := ?x34) (y := ?y34) (b := ?b34) (T := 30) e1 ?hi34 ?hl34 ?hg34 ?ho34 ?hx34 ?hy34 ?hd34 ?hc34 ?hh34 ?hs34
      case hi34 => (simp only [List.getElem?_toArray, List.getElem?_cons_succ, List.getElem?_cons_zero]; try rfl)
      case hl34 => (simp only [List.setIfInBounds_toArray, List.set_cons_succ, List.set_cons_zero]; try rfl)
      case hg34 => rfl
      case ho34 => rfl
      case hx34 => rfl
      case hy34 => rfl
      case hd34 => rfl
      case hc34 => exact Ob.room (obDrew HZ.out)
      case hs34 =>
        exact AllReady.nil
      intro w7 hO hU
      have GZ := hid hO
      have GX : Hid (Ob w7 (w.heap.size) 30 e1) := hid (hU.ob ((obDrew HX.out)) (by omega))
      have GY : Hid (Ob w7 (w.heap.size + 1) 36 m1) := hid (hU.ob ((obDrew HY.out)) (by omega))
      have GA : Hid (w7.heap[w.heap.size + 2]? = some ((.cells #[.int .u8 k, .int .i64 b, .int .i64 t, p.v] 35))) := hid (hU.ob ((obDrew HA.out)) (by omega))
      have GV : Hid (Ob w7 (w.heap.size + 4) 36 zE) := hid (hU.ob ((obDrew HV.out)) (by omega))
      have GW := hid (((belowDrew HW.out)).trans (hU.below _ (by first | exact Nat.le_refl _ | omega)))
      clear hO hU
      clear kA0 kA1 kA2 kA3
      clear HX HY HA HZ HV HW
      have HX := GX
      clear GX
      have HY := GY
      clear GY
      have HA := GA
      clear GA
      have HZ := GZ
      clear GZ
      have HV := GV
      clear GV
      have HW := GW
      clear GW
      refine wpAny_ready (rs := [9]) (by kernel_rfl) (by simp) ?_
      with_reducible refine ra_storeR (o := ?o35) (listed' := ?l35) (x := ?x35) (y := ?y35) (b := ?b35) (T := 36) m1 ?hi35 ?hl35 ?hg35 ?ho35 ?hx35 ?hy35 ?hd35 ?hc35 ?hh35 ?hs35
      case hi35 => (simp only [List.getElem?_toArray, List.getElem?_cons_succ, List.getElem?_cons_zero]; try rfl)
      case hl35 => (simp only [List.setIfInBounds_toArray, List.set_cons_succ, List.set_cons_zero]; try rfl)
      case hg35 => rfl
      case ho35 => rfl
      case hx35 => rfl
      case hy35 => rfl
      case hd35 => rfl
      case hc35 => exact Ob.room HV.out
      case hs35 =>
        exact AllReady.nil
      intro w8 hO hU
      have GV := hid hO
      have GX : Hid (Ob w8 (w.heap.size) 30 e1) := hid (hU.ob (HX.out) (by omega))
      have GY : Hid (Ob w8 (w.heap.size + 1) 36 m1) := hid (hU.ob (HY.out) (by omega))
      have GA : Hid (w8.heap[w.heap.size + 2]? = some ((.cells #[.int .u8 k, .int .i64 b, .int .i64 t, p.v] 35))) := hid (hU.ob (HA.out) (by omega))
      have GZ : Hid (Ob w8 (w.heap.size + 3) 30 e1) := hid (hU.ob (HZ.out) (by omega))
      have GW := hid ((HW.out).trans (hU.below _ (by first | exact Nat.le_refl _ | omega)))
      clear hO hU
      clear HX HY HA HZ HV HW
      have HX := GX
      clear GX
      have HY := GY
      clear GY
      have HA := GA
      clear GA
      have HZ := GZ
      clear GZ
      have HV := GV
      clear GV
      have HW := GW
      clear GW
      refine wpAny_ready (rs := [10]) (by kernel_rfl) (by simp) ?_
      with_reducible refine ra_assign (o := ?o36) (listed' := ?l36) (a' := ?a36) (x := ?x36) (v := ?v36) ?hi36 ?hl36 ?hg36 ?ho36 ?hv36 ?ha36 ?hh36 ?hs36
      case hi36 => (simp only [List.getElem?_toArray, List.getElem?_cons_succ, List.getElem?_cons_zero]; try rfl)
      case hl36 => (simp only [List.setIfInBounds_toArray, List.set_cons_succ, List.set_cons_zero]; try rfl)
      case hg36 => rfl
      case ho36 => rfl
      case hv36 => rfl
      case ha36 => (simp only [Act.put, List.setIfInBounds_toArray, List.set_cons_succ, List.set_cons_zero]; try rfl)
      case hs36 =>
        exact AllReady.nil
      refine wpAny_done (by kernel_rfl) ?_ _
      go_wp2_with fail
      refine bodyPost_ret (ret_cell2_tmp rfl rfl rfl rfl (HZ.out).range Try.underlying30 rfl (infoEc e1) (HV.out).range Try.underlying36 rfl (infoE m1)) rfl ⟨⟨_, rfl⟩, HW.out⟩
    refine wpAny_ready (rs := [1, 8]) (by kernel_rfl) (by simp) ?_
    with_reducible refine ra_loadR (o := ?o37) (listed' := ?l37) (a' := ?a37) (x := ?x37) (b := ?b37) (T := 36) m1 ?hi37 ?hl37 ?hg37 ?ho37 ?hx37 ?hc37 ?ha37 ?hh37 ?hs37
    case hi37 => (simp only [List.getElem?_toArray, List.getElem?_cons_succ, List.getElem?_cons_zero]; try rfl)
    case hl37 => (simp only [List.setIfInBounds_toArray, List.set_cons_succ, List.set_cons_zero]; try rfl)
    case hg37 => rfl
    case ho37 => rfl
    case hx37 => rfl
    case hc37 => exact (obDrew HY.out)
    case ha37 => (simp only [Act.put, List.setIfInBounds_toArray, List.set_cons_succ, List.set_cons_zero]; try rfl)
    case hs37 =>
      with_reducible refine ra_storeC (o := ?o38) (listed' := ?l38) (x := ?x38) (y := ?y38) (b := ?b38) (T := 30) e1 ?hi38 ?hl38 ?hg38 ?ho38 ?hx38 ?hy38 ?hd38 ?hc38 ?hh38 ?hs38
      case hi38 => (simp only [List.getElem?_toArray, List.getElem?_cons_succ, List.getElem?_cons_zero]; try rfl)
      case hl38 => (simp only [List.setIfInBounds_toArray, List.set_cons_succ, List.set_cons_zero]; try rfl)
      case hg38 => rfl
      case ho38 => rfl
      case hx38 => rfl
      case hy38 => rfl
      case hd38 => rfl
      case hc38 => exact Ob.room (obDrew HZ.out)
      case hs38 =>
        exact AllReady.nil
      intro w9 hO hU
      have GZ := hid hO
      have GX : Hid (Ob w9 (w.heap.size) 30 e1) := hid (hU.ob ((obDrew HX.out)) (by omega))
      have GY : Hid (Ob w9 (w.heap.size + 1) 36 m1) := hid (hU.ob ((obDrew HY.out)) (by omega))
      have GA : Hid (w9.heap[w.heap.size + 2]? = some ((.cells #[.int .u8 k, .int .i64 b, .int .i64 t, p.v] 35))) := hid (hU.ob ((obDrew HA.out)) (by omega))
      have GV : Hid (Ob w9 (w.heap.size + 4) 36 zE) := hid (hU.ob ((obDrew HV.out)) (by omega))
      have GW := hid (((belowDrew HW.out)).trans (hU.below _ (by first | exact Nat.le_refl _ | omega)))
      clear hO hU
      clear kA0 kA1 kA2 kA3
      clear HX HY HA HZ HV HW
      have HX := GX
      clear GX
      have HY := GY
      clear GY
      have HA := GA
      clear GA
      have HZ := GZ
      clear GZ
      have HV := GV
      clear GV
      have HW := GW
      clear GW
      refine wpAny_ready (rs := [1]) (by kernel_rfl) (by simp) ?_
      with_reducible refine ra_loadR (o := ?o39) (listed' := ?l39) (a' := ?a39) (x := ?x39) (b := ?b39) (T := 36) m1 ?hi39 ?hl39 ?hg39 ?ho39 ?hx39 ?hc39 ?ha39 ?hh39 ?hs39
      case hi39 => (simp only [List.getElem?_toArray, List.getElem?_cons_succ, List.getElem?_cons_zero]; try rfl)
      case hl39 => (simp only [List.setIfInBounds_toArray, List.set_cons_succ, List.set_cons_zero]; try rfl)
      case hg39 => rfl
      case ho39 => rfl
      case hx39 => rfl
      case hc39 => exact HY.out
      case ha39 => (simp only [Act.put, List.setIfInBounds_toArray, List.set_cons_succ, List.set_cons_zero]; try rfl)
      case hs39 =>
        exact AllReady.nil
      refine wpAny_ready (rs := [9]) (by kernel_rfl) (by simp) ?_
      with_reducible refine ra_storeR (o := ?o40) (listed' := ?l40) (x := ?x40) (y := ?y40) (b := ?b40) (T := 36) m1 ?hi40 ?hl40 ?hg40 ?ho40 ?hx40 ?hy40 ?hd40 ?hc40 ?hh40 ?hs40
      case hi40 => (simp only [List.getElem?_toArray, List.getElem?_cons_succ, List.getElem?_cons_zero]; try rfl)
      case hl40 => (simp only [List.setIfInBounds_toArray, List.set_cons_succ, List.set_cons_zero]; try rfl)
      case hg40 => rfl
      case ho40 => rfl
      case hx40 => rfl
      case hy40 => rfl
      case hd40 => rfl
      case hc40 => exact Ob.room HV.out
      case hs40 =>
        exact AllReady.nil
      intro w10 hO hU
      have GV := hid hO
      have GX : Hid (Ob w10 (w.heap.size) 30 e1) := hid (hU.ob (HX.out) (by omega))
      have GY : Hid (Ob w10 (w.heap.size + 1) 36 m1) := hid (hU.ob (HY.out) (by omega))
      have GA : Hid (w10.heap[w.heap.size + 2]? = some ((.cells #[.int .u8 k, .int .i64 b, .int .i64 t, p.v] 35))) := hid (hU.ob (HA.out) (by omega))
      have GZ : Hid (Ob w10 (w.heap.size + 3) 30 e1) := hid (hU.ob (HZ.out) (by omega))
      have GW := hid ((HW.out).trans (hU.below _ (by first | exact Nat.le_refl _ | omega)))
      clear hO hU
      clear HX HY HA HZ HV HW
      have HX := GX
      clear GX
      have HY := GY
      clear GY
      have HA := GA
      clear GA
      have HZ := GZ
      clear GZ
      have HV := GV
      clear GV
      have HW := GW
      clear GW
      refine wpAny_ready (rs := [10]) (by kernel_rfl) (by simp) ?_
      with_reducible refine ra_assign (o := ?o41) (listed' := ?l41) (a' := ?a41) (x := ?x41) (v := ?v41) ?hi41 ?hl41 ?hg41 ?ho41 ?hv41 ?ha41 ?hh41 ?hs41
      case hi41 => (simp only [List.getElem?_toArray, List.getElem?_cons_succ, List.getElem?_cons_zero]; try rfl)
      case hl41 => (simp only [List.setIfInBounds_toArray, List.set_cons_succ, List.set_cons_zero]; try rfl)
      case hg41 => rfl
      case ho41 => rfl
      case hv41 => rfl
      case ha41 => (simp only [Act.put, List.setIfInBounds_toArray, List.set_cons_succ, List.set_cons_zero]; try rfl)
      case hs41 =>
        exact AllReady.nil
      refine wpAny_done (by kernel_rfl) ?_ _
      go_wp2_with fail
      refine bodyPost_ret (ret_cell2_tmp rfl rfl rfl rfl (HZ.out).range Try.underlying30 rfl (infoEc e1) (HV.out).range Try.underlying36 rfl (infoE m1)) rfl ⟨⟨_, rfl⟩, HW.out⟩
    refine wpAny_ready (rs := [8]) (by kernel_rfl) (by simp) ?_
    with_reducible refine ra_storeC (o := ?o42) (listed' := ?l42) (x := ?x42) (y := ?y42) (b := ?b42) (T := 30) e1 ?hi42 ?hl42 ?hg42 ?ho42 ?hx42 ?hy42 ?hd42 ?hc42 ?hh42 ?hs42
    case hi42 => (simp only [List.getElem?_toArray, List.getElem?_cons_succ, List.getElem?_cons_zero]; try rfl)
    case hl42 => (simp only [List.setIfInBounds_toArray, List.set_cons_succ, List.set_cons_zero]; try rfl)
    case hg42 => rfl
    case ho42 => rfl
    case hx42 => rfl
    case hy42 => rfl
    case hd42 => rfl
    case hc42 => exact Ob.room (obDrew HZ.out)
    case hs42 =>
      exact AllReady.nil
    intro w11 hO hU
    have GZ := hid hO
    have GX : Hid (Ob w11 (w.heap.size) 30 e1) := hid (hU.ob ((obDrew HX.out)) (by omega))
    have GY : Hid (Ob w11 (w.heap.size + 1) 36 m1) := hid (hU.ob ((obDrew HY.out)) (by omega))
    have GA : Hid (w11.heap[w.heap.size + 2]? = some ((.cells #[.int .u8 k, .int .i64 b, .int .i64 t, p.v] 35))) := hid (hU.ob ((obDrew HA.out)) (by omega))
    have GV : Hid (Ob w11 (w.heap.size + 4) 36 zE) := hid (hU.ob ((obDrew HV.out)) (by omega))
    have GW := hid (((belowDrew HW.out)).trans (hU.below _ (by first | exact Nat.le_refl _ | omega)))
    clear hO hU
    clear kA0 kA1 kA2 kA3
    clear HX HY HA HZ HV HW
    have HX := GX
    clear GX
    have HY := GY
    clear GY
    have HA := GA
    clear GA
    have HZ := GZ
    clear GZ
    have HV := GV
    clear GV
    have HW := GW
    clear GW
    refine wpAny_ready (rs := [9]) (by kernel_rfl) (by simp) ?_
    with_reducible refine ra_storeR (o := ?o43) (listed' := ?l43) (x := ?x43) (y := ?y43) (b := ?b43) (T := 36) m1 ?hi43 ?hl43 ?hg43 ?ho43 ?hx43 ?hy43 ?hd43 ?hc43 ?hh43 ?hs43
    case hi43 => (simp only [List.getElem?_toArray, List.getElem?_cons_succ, List.getElem?_cons_zero]; try rfl)
    case hl43 => (simp only [List.setIfInBounds_toArray, List.set_cons_succ, List.set_cons_zero]; try rfl)
    case hg43 => rfl
    case ho43 => rfl
    case hx43 => rfl
    case hy43 => rfl
    case hd43 => rfl
    case hc43 => exact Ob.room HV.out
    case hs43 =>
      exact AllReady.nil
    intro w12 hO hU
    have GV := hid hO
    have GX : Hid (Ob w12 (w.heap.size) 30 e1) := hid (hU.ob (HX.out) (by omega))
    have GY : Hid (Ob w12 (w.heap.size + 1) 36 m1) := hid (hU.ob (HY.out) (by omega))
    have GA : Hid (w12.heap[w.heap.size + 2]? = some ((.cells #[.int .u8 k, .int .i64 b, .int .i64 t, p.v] 35))) := hid (hU.ob (HA.out) (by omega))
    have GZ : Hid (Ob w12 (w.heap.size + 3) 30 e1) := hid (hU.ob (HZ.out) (by omega))
    have GW := hid ((HW.out).trans (hU.below _ (by first | exact Nat.le_refl _ | omega)))
    clear hO hU
    clear HX HY HA HZ HV HW
    have HX := GX
    clear GX
    have HY := GY
    clear GY
    have HA := GA
    clear GA
    have HZ := GZ
    clear GZ
    have HV := GV
    clear GV
    have HW := GW
    clear GW
    refine wpAny_ready (rs := [10]) (by kernel_rfl) (by simp) ?_
    with_reducible refine ra_assign (o := ?o44) (listed' := ?l44) (a' := ?a44) (x := ?x44) (v := ?v44) ?hi44 ?hl44 ?hg44 ?ho44 ?hv44 ?ha44 ?hh44 ?hs44
    case hi44 => (simp only [List.getElem?_toArray, List.getElem?_cons_succ, List.getElem?_cons_zero]; try rfl)
    case hl44 => (simp only [List.setIfInBounds_toArray, List.set_cons_succ, List.set_cons_zero]; try rfl)
    case hg44 => rfl
    case ho44 => rfl
    case hv44 => rfl
    case ha44 => (simp only [Act.put, List.setIfInBounds_toArray, List.set_cons_succ, List.set_cons_zero]; try rfl)
    case hs44 =>
      exact AllReady.nil
    refine wpAny_done (by kernel_rfl) ?_ _
    go_wp2_with fail
    refine bodyPost_ret (ret_cell2_tmp rfl rfl rfl rfl (HZ.out).range Try.underlying30 rfl (infoEc e1) (HV.out).range Try.underlying36 rfl (infoE m1)) rfl ⟨⟨_, rfl⟩, HW.out⟩
set_option maxHeartbeats 8000000 in
set_option maxRecDepth 100000 in
theorem step_1 {e m e1 m1 : Ev} {f1 g1 : Int} {s : Bool} {k b t : Int} {p : Sv} {w : World} (hk : k.tmod 6 = 1) (HC : ∀ W, Below w.heap.size w W → Calls Try.prog 29 #[.agg e.arr, .int .i64 t] W fun x w' => x = .returned (.tuple #[.agg e1.arr, .int .i64 f1]) ∧ Below W.heap.size W w')
    (HR : ∀ W, Below w.heap.size w W → Calls Try.prog 30 #[.agg m.arr, .int .i64 t] W fun x w' => x = .returned (.tuple #[.agg m1.arr, .int .i64 g1]) ∧ Below W.heap.size W w')
    (HS : ∀ W, Below w.heap.size w W → Calls Try.prog 14 #[.agg e1.arr, .agg m1.arr] W fun x w' => x = .returned (.bool s) ∧ Below W.heap.size W w') :
    Calls Try.prog 9 #[.agg e.arr, .agg m.arr, .agg #[.int .u8 k, .int .i64 b, .int .i64 t, p.v]] w fun x w' => (∃ r, x = .returned (.tuple #[.agg e1.arr, .agg m1.arr, .bool r])) ∧ Below w.heap.size w w' := by
  have GC := hid HC
  have GR := hid HR
  have GS := hid HS
  clear HC HR HS
  have HX : Hid (Ob (((((w.alloc (.cells e.arr 30)).alloc (.cells m.arr 36)).alloc (.cells #[.int .u8 k, .int .i64 b, .int .i64 t, p.v] 35)).alloc zeroEc).alloc zeroE) (w.heap.size) 30 e) := hid (laid5_0 w (.cells e.arr 30) (.cells m.arr 36) (.cells #[.int .u8 k, .int .i64 b, .int .i64 t, p.v] 35) zeroEc zeroE)
  have HY : Hid (Ob (((((w.alloc (.cells e.arr 30)).alloc (.cells m.arr 36)).alloc (.cells #[.int .u8 k, .int .i64 b, .int .i64 t, p.v] 35)).alloc zeroEc).alloc zeroE) (w.heap.size + 1) 36 m) := hid (laid5_1 w (.cells e.arr 30) (.cells m.arr 36) (.cells #[.int .u8 k, .int .i64 b, .int .i64 t, p.v] 35) zeroEc zeroE)
  have HA : Hid ((((((w.alloc (.cells e.arr 30)).alloc (.cells m.arr 36)).alloc (.cells #[.int .u8 k, .int .i64 b, .int .i64 t, p.v] 35)).alloc zeroEc).alloc zeroE).heap[w.heap.size + 2]? = some ((.cells #[.int .u8 k, .int .i64 b, .int .i64 t, p.v] 35))) := hid (laid5_2 w (.cells e.arr 30) (.cells m.arr 36) (.cells #[.int .u8 k, .int .i64 b, .int .i64 t, p.v] 35) zeroEc zeroE)
  have HZ : Hid (Ob (((((w.alloc (.cells e.arr 30)).alloc (.cells m.arr 36)).alloc (.cells #[.int .u8 k, .int .i64 b, .int .i64 t, p.v] 35)).alloc zeroEc).alloc zeroE) (w.heap.size + 3) 30 zE) := hid (laid5_3 w (.cells e.arr 30) (.cells m.arr 36) (.cells #[.int .u8 k, .int .i64 b, .int .i64 t, p.v] 35) zeroEc zeroE)
  have HV : Hid (Ob (((((w.alloc (.cells e.arr 30)).alloc (.cells m.arr 36)).alloc (.cells #[.int .u8 k, .int .i64 b, .int .i64 t, p.v] 35)).alloc zeroEc).alloc zeroE) (w.heap.size + 4) 36 zE) := hid (laid5_4 w (.cells e.arr 30) (.cells m.arr 36) (.cells #[.int .u8 k, .int .i64 b, .int .i64 t, p.v] 35) zeroEc zeroE)
  have HW : Hid (Below w.heap.size w (((((w.alloc (.cells e.arr 30)).alloc (.cells m.arr 36)).alloc (.cells #[.int .u8 k, .int .i64 b, .int .i64 t, p.v] 35)).alloc zeroEc).alloc zeroE)) := hid (laid5_b w (.cells e.arr 30) (.cells m.arr 36) (.cells #[.int .u8 k, .int .i64 b, .int .i64 t, p.v] 35) zeroEc zeroE)
  have tok : Hid (0 = 0) := hid rfl
  go_enter Try.func9, Try.ntmps9
  go_wp2_with (first
    | (clear tok; (with_reducible refine opaqueW (((((w.alloc (.cells e.arr 30)).alloc (.cells m.arr 36)).alloc (.cells #[.int .u8 k, .int .i64 b, .int .i64 t, p.v] 35)).alloc zeroEc).alloc zeroE) ?_); intro W0 hW; rw [← hW] at HX HY HA HZ HV HW; clear hW; have kA0 : W0.cell? ⟨w.heap.size + 2, 0, none⟩ = some (.int .u8 k) := (cellAt' HA.out 0).trans rfl; have kA1 : W0.cell? ⟨w.heap.size + 2, 1, none⟩ = some (.int .i64 b) := (cellAt' HA.out 1).trans rfl; have kA2 : W0.cell? ⟨w.heap.size + 2, 2, none⟩ = some (.int .i64 t) := (cellAt' HA.out 2).trans rfl; have kA3 : W0.cell? ⟨w.heap.size + 2, 3, none⟩ = some (.slice p.a p.n p.c) := (cellAt' HA.out 3).trans rfl)
    | ((with_reducible refine loadC (x := ?lx45) (b := ?lb45) (T := 30) e ?lg45 ?lo45 ?lxx45 ?lc45 ?lh45); (case lg45 => rfl); (case lo45 => rfl); (case lxx45 => rfl); (case lc45 => exact HX.out)))
  go_at_call 29
  refine (GC.out _ HW.out).mono ?_
  rintro x w1 ⟨rfl, hB⟩
  have GX : Hid (Ob w1 (w.heap.size) 30 e) := hid (heapB (HX.out) hB (Array.getElem?_eq_some_iff.1 (HX.out)).1)
  have GY : Hid (Ob w1 (w.heap.size + 1) 36 m) := hid (heapB (HY.out) hB (Array.getElem?_eq_some_iff.1 (HY.out)).1)
  have GA : Hid (w1.heap[w.heap.size + 2]? = some ((.cells #[.int .u8 k, .int .i64 b, .int .i64 t, p.v] 35))) := hid (heapB (HA.out) hB (Array.getElem?_eq_some_iff.1 (HA.out)).1)
  have GZ : Hid (Ob w1 (w.heap.size + 3) 30 zE) := hid (heapB (HZ.out) hB (Array.getElem?_eq_some_iff.1 (HZ.out)).1)
  have GV : Hid (Ob w1 (w.heap.size + 4) 36 zE) := hid (heapB (HV.out) hB (Array.getElem?_eq_some_iff.1 (HV.out)).1)
  have GW := hid ((HW.out).trans (hB.mono (HW.out).size))
  clear kA0 kA1 kA2 kA3
  clear hB HX HY HA HZ HV HW
  have HX := GX; clear GX
  have HY := GY; clear GY
  have HA := GA; clear GA
  have HZ := GZ; clear GZ
  have HV := GV; clear GV
  have HW := GW; clear GW
  have kA0 : w1.cell? ⟨w.heap.size + 2, 0, none⟩ = some (.int .u8 k) := (cellAt' HA.out 0).trans rfl
  have kA1 : w1.cell? ⟨w.heap.size + 2, 1, none⟩ = some (.int .i64 b) := (cellAt' HA.out 1).trans rfl
  have kA2 : w1.cell? ⟨w.heap.size + 2, 2, none⟩ = some (.int .i64 t) := (cellAt' HA.out 2).trans rfl
  have kA3 : w1.cell? ⟨w.heap.size + 2, 3, none⟩ = some (.slice p.a p.n p.c) := (cellAt' HA.out 3).trans rfl
  go_wp2_with (first
    | ((with_reducible refine uponStore (e := e1) (Ob.room HX.out) ?_); intro w2 hO hU; have GX := hid hO; have GY : Hid (Ob w2 (w.heap.size + 1) 36 m) := hid (hU.ob (HY.out) (by omega)); have GA : Hid (w2.heap[w.heap.size + 2]? = some ((.cells #[.int .u8 k, .int .i64 b, .int .i64 t, p.v] 35))) := hid (hU.ob (HA.out) (by omega)); have GZ : Hid (Ob w2 (w.heap.size + 3) 30 zE) := hid (hU.ob (HZ.out) (by omega)); have GV : Hid (Ob w2 (w.heap.size + 4) 36 zE) := hid (hU.ob (HV.out) (by omega)); have GW := hid ((HW.out).trans (hU.below _ (by first | exact Nat.le_refl _ | omega))); clear hO hU; clear kA0 kA1 kA2 kA3; clear HX HY HA HZ HV HW; have HX := GX; clear GX; have HY := GY; clear GY; have HA := GA; clear GA; have HZ := GZ; clear GZ; have HV := GV; clear GV; have HW := GW; clear GW; have kA0 : w2.cell? ⟨w.heap.size + 2, 0, none⟩ = some (.int .u8 k) := (cellAt' HA.out 0).trans rfl; have kA1 : w2.cell? ⟨w.heap.size + 2, 1, none⟩ = some (.int .i64 b) := (cellAt' HA.out 1).trans rfl; have kA2 : w2.cell? ⟨w.heap.size + 2, 2, none⟩ = some (.int .i64 t) := (cellAt' HA.out 2).trans rfl; have kA3 : w2.cell? ⟨w.heap.size + 2, 3, none⟩ = some (.slice p.a p.n p.c) := (cellAt' HA.out 3).trans rfl)
    | ((with_reducible refine loadR (x := ?lx46) (b := ?lb46) (T := 36) m ?lg46 ?lo46 ?lxx46 ?lc46 ?lh46); (case lg46 => rfl); (case lo46 => rfl); (case lxx46 => rfl); (case lc46 => exact HY.out)))
  go_at_call 30
  refine (GR.out _ HW.out).mono ?_
  rintro x w3 ⟨rfl, hB⟩
  have GX : Hid (Ob w3 (w.heap.size) 30 e1) := hid (heapB (HX.out) hB (Array.getElem?_eq_some_iff.1 (HX.out)).1)
  have GY : Hid (Ob w3 (w.heap.size + 1) 36 m) := hid (heapB (HY.out) hB (Array.getElem?_eq_some_iff.1 (HY.out)).1)
  have GA : Hid (w3.heap[w.heap.size + 2]? = some ((.cells #[.int .u8 k, .int .i64 b, .int .i64 t, p.v] 35))) := hid (heapB (HA.out) hB (Array.getElem?_eq_some_iff.1 (HA.out)).1)
  have GZ : Hid (Ob w3 (w.heap.size + 3) 30 zE) := hid (heapB (HZ.out) hB (Array.getElem?_eq_some_iff.1 (HZ.out)).1)
  have GV : Hid (Ob w3 (w.heap.size + 4) 36 zE) := hid (heapB (HV.out) hB (Array.getElem?_eq_some_iff.1 (HV.out)).1)
  have GW := hid ((HW.out).trans (hB.mono (HW.out).size))
  clear kA0 kA1 kA2 kA3
  clear hB HX HY HA HZ HV HW
  have HX := GX; clear GX
  have HY := GY; clear GY
  have HA := GA; clear GA
  have HZ := GZ; clear GZ
  have HV := GV; clear GV
  have HW := GW; clear GW
  have kA0 : w3.cell? ⟨w.heap.size + 2, 0, none⟩ = some (.int .u8 k) := (cellAt' HA.out 0).trans rfl
  have kA1 : w3.cell? ⟨w.heap.size + 2, 1, none⟩ = some (.int .i64 b) := (cellAt' HA.out 1).trans rfl
  have kA2 : w3.cell? ⟨w.heap.size + 2, 2, none⟩ = some (.int .i64 t) := (cellAt' HA.out 2).trans rfl
  have kA3 : w3.cell? ⟨w.heap.size + 2, 3, none⟩ = some (.slice p.a p.n p.c) := (cellAt' HA.out 3).trans rfl
  go_wp2_with (first
    | ((with_reducible refine uponStore (e := m1) (Ob.room HY.out) ?_); intro w4 hO hU; have GY := hid hO; have GX : Hid (Ob w4 (w.heap.size) 30 e1) := hid (hU.ob (HX.out) (by omega)); have GA : Hid (w4.heap[w.heap.size + 2]? = some ((.cells #[.int .u8 k, .int .i64 b, .int .i64 t, p.v] 35))) := hid (hU.ob (HA.out) (by omega)); have GZ : Hid (Ob w4 (w.heap.size + 3) 30 zE) := hid (hU.ob (HZ.out) (by omega)); have GV : Hid (Ob w4 (w.heap.size + 4) 36 zE) := hid (hU.ob (HV.out) (by omega)); have GW := hid ((HW.out).trans (hU.below _ (by first | exact Nat.le_refl _ | omega))); clear hO hU; clear kA0 kA1 kA2 kA3; clear HX HY HA HZ HV HW; have HX := GX; clear GX; have HY := GY; clear GY; have HA := GA; clear GA; have HZ := GZ; clear GZ; have HV := GV; clear GV; have HW := GW; clear GW; have kA0 : w4.cell? ⟨w.heap.size + 2, 0, none⟩ = some (.int .u8 k) := (cellAt' HA.out 0).trans rfl; have kA1 : w4.cell? ⟨w.heap.size + 2, 1, none⟩ = some (.int .i64 b) := (cellAt' HA.out 1).trans rfl; have kA2 : w4.cell? ⟨w.heap.size + 2, 2, none⟩ = some (.int .i64 t) := (cellAt' HA.out 2).trans rfl; have kA3 : w4.cell? ⟨w.heap.size + 2, 3, none⟩ = some (.slice p.a p.n p.c) := (cellAt' HA.out 3).trans rfl)
    | ((with_reducible refine loadC (x := ?lx47) (b := ?lb47) (T := 30) e1 ?lg47 ?lo47 ?lxx47 ?lc47 ?lh47); (case lg47 => rfl); (case lo47 => rfl); (case lxx47 => rfl); (case lc47 => exact HX.out))
    | ((with_reducible refine loadR (x := ?lx48) (b := ?lb48) (T := 36) m1 ?lg48 ?lo48 ?lxx48 ?lc48 ?lh48); (case lg48 => rfl); (case lo48 => rfl); (case lxx48 => rfl); (case lc48 => exact HY.out)))
  go_at_call 14
  refine (GS.out _ HW.out).mono ?_
  rintro x w5 ⟨rfl, hB⟩
  have GX : Hid (Ob w5 (w.heap.size) 30 e1) := hid (heapB (HX.out) hB (Array.getElem?_eq_some_iff.1 (HX.out)).1)
  have GY : Hid (Ob w5 (w.heap.size + 1) 36 m1) := hid (heapB (HY.out) hB (Array.getElem?_eq_some_iff.1 (HY.out)).1)
  have GA : Hid (w5.heap[w.heap.size + 2]? = some ((.cells #[.int .u8 k, .int .i64 b, .int .i64 t, p.v] 35))) := hid (heapB (HA.out) hB (Array.getElem?_eq_some_iff.1 (HA.out)).1)
  have GZ : Hid (Ob w5 (w.heap.size + 3) 30 zE) := hid (heapB (HZ.out) hB (Array.getElem?_eq_some_iff.1 (HZ.out)).1)
  have GV : Hid (Ob w5 (w.heap.size + 4) 36 zE) := hid (heapB (HV.out) hB (Array.getElem?_eq_some_iff.1 (HV.out)).1)
  have GW := hid ((HW.out).trans (hB.mono (HW.out).size))
  clear kA0 kA1 kA2 kA3
  clear hB HX HY HA HZ HV HW
  have HX := GX; clear GX
  have HY := GY; clear GY
  have HA := GA; clear GA
  have HZ := GZ; clear GZ
  have HV := GV; clear GV
  have HW := GW; clear GW
  have kA0 : w5.cell? ⟨w.heap.size + 2, 0, none⟩ = some (.int .u8 k) := (cellAt' HA.out 0).trans rfl
  have kA1 : w5.cell? ⟨w.heap.size + 2, 1, none⟩ = some (.int .i64 b) := (cellAt' HA.out 1).trans rfl
  have kA2 : w5.cell? ⟨w.heap.size + 2, 2, none⟩ = some (.int .i64 t) := (cellAt' HA.out 2).trans rfl
  have kA3 : w5.cell? ⟨w.heap.size + 2, 3, none⟩ = some (.slice p.a p.n p.c) := (cellAt' HA.out 3).trans rfl
  go_wp2_with fail
  clear GC GR GS
  cases s with
  | false =>
    refine ra_start (n := 11) (listed := #[false, false, false, false, false, false, false, false, false, false, false]) (by kernel_rfl) rfl rfl ?_
    refine ra_take (i := 2) (o := ?o49) (v := ?v49) (listed' := ?l49) (a' := ?a49) ?hi49 (by kernel_rfl) (by kernel_rfl) (by kernel_rfl) ?hq49 ?hl49 ?hw49 ?hv49 ?ha49 ?hh49
    case hi49 => (simp only [List.getElem?_toArray, List.getElem?_cons_succ, List.getElem?_cons_zero]; try rfl)
    case hq49 => exact fun _ _ _ h => h
    case hl49 => (simp only [List.setIfInBounds_toArray, List.set_cons_succ, List.set_cons_zero]; try rfl)
    case hw49 => rfl
    case hv49 =>
      intro w
      go_simp
      try with_reducible rfl
    case ha49 => (simp only [Act.put, List.setIfInBounds_toArray, List.set_cons_succ, List.set_cons_zero]; try rfl)
    refine ra_take (i := 3) (o := ?o50) (v := ?v50) (listed' := ?l50) (a' := ?a50) ?hi50 (by kernel_rfl) (by kernel_rfl) (by kernel_rfl) ?hq50 ?hl50 ?hw50 ?hv50 ?ha50 ?hh50
    case hi50 => (simp only [List.getElem?_toArray, List.getElem?_cons_succ, List.getElem?_cons_zero]; try rfl)
    case hq50 => exact fun _ _ _ h => h
    case hl50 => (simp only [List.setIfInBounds_toArray, List.set_cons_succ, List.set_cons_zero]; try rfl)
    case hw50 => rfl
    case hv50 =>
      intro w
      go_simp
      try with_reducible rfl
    case ha50 => (simp only [Act.put, List.setIfInBounds_toArray, List.set_cons_succ, List.set_cons_zero]; try rfl)
    refine ra_skip (i := 4) (o := ?o51) (listed' := ?l51) (a' := ?a51) ?hi51 (by kernel_rfl) (by kernel_rfl) (by kernel_rfl) ?hq51 ?hl51 ?hw51 ?ha51 ?hh51
    case hi51 => (simp only [List.getElem?_toArray, List.getElem?_cons_succ, List.getElem?_cons_zero]; try rfl)
    case hq51 => exact fun _ _ _ h => h
    case hl51 => (simp only [List.setIfInBounds_toArray, List.set_cons_succ, List.set_cons_zero]; try rfl)
    case hw51 => rfl
    case ha51 => (simp only [Act.put, List.setIfInBounds_toArray, List.set_cons_succ, List.set_cons_zero]; try rfl)
    refine ra_skip (i := 5) (o := ?o52) (listed' := ?l52) (a' := ?a52) ?hi52 (by kernel_rfl) (by kernel_rfl) (by kernel_rfl) ?hq52 ?hl52 ?hw52 ?ha52 ?hh52
    case hi52 => (simp only [List.getElem?_toArray, List.getElem?_cons_succ, List.getElem?_cons_zero]; try rfl)
    case hq52 => exact fun _ _ _ h => h
    case hl52 => (simp only [List.setIfInBounds_toArray, List.set_cons_succ, List.set_cons_zero]; try rfl)
    case hw52 => rfl
    case ha52 => (simp only [Act.put, List.setIfInBounds_toArray, List.set_cons_succ, List.set_cons_zero]; try rfl)
    refine ra_skip (i := 6) (o := ?o53) (listed' := ?l53) (a' := ?a53) ?hi53 (by kernel_rfl) (by kernel_rfl) (by kernel_rfl) ?hq53 ?hl53 ?hw53 ?ha53 ?hh53
    case hi53 => (simp only [List.getElem?_toArray, List.getElem?_cons_succ, List.getElem?_cons_zero]; try rfl)
    case hq53 => exact fun _ _ _ h => h
    case hl53 => (simp only [List.setIfInBounds_toArray, List.set_cons_succ, List.set_cons_zero]; try rfl)
    case hw53 => rfl
    case ha53 => (simp only [Act.put, List.setIfInBounds_toArray, List.set_cons_succ, List.set_cons_zero]; try rfl)
    refine ra_take (i := 7) (o := ?o54) (v := ?v54) (listed' := ?l54) (a' := ?a54) ?hi54 (by kernel_rfl) (by kernel_rfl) (by kernel_rfl) ?hq54 ?hl54 ?hw54 ?hv54 ?ha54 ?hh54
    case hi54 => (simp only [List.getElem?_toArray, List.getElem?_cons_succ, List.getElem?_cons_zero]; try rfl)
    case hq54 => exact fun _ _ _ h => h
    case hl54 => (simp only [List.setIfInBounds_toArray, List.set_cons_succ, List.set_cons_zero]; try rfl)
    case hw54 => rfl
    case hv54 =>
      intro w
      go_simp
      try with_reducible rfl
    case ha54 => (simp only [Act.put, List.setIfInBounds_toArray, List.set_cons_succ, List.set_cons_zero]; try rfl)
    refine wpAny_ready (rs := [0, 1]) (by kernel_rfl) (by simp) ?_
    with_reducible refine ra_loadC (o := ?o55) (listed' := ?l55) (a' := ?a55) (x := ?x55) (b := ?b55) (T := 30) e1 ?hi55 ?hl55 ?hg55 ?ho55 ?hx55 ?hc55 ?ha55 ?hh55 ?hs55
    case hi55 => (simp only [List.getElem?_toArray, List.getElem?_cons_zero]; try rfl)
    case hl55 => (simp only [List.setIfInBounds_toArray, List.set_cons_zero]; try rfl)
    case hg55 => rfl
    case ho55 => rfl
    case hx55 => rfl
    case hc55 => exact (obDrew HX.out)
    case ha55 => (simp only [Act.put, List.setIfInBounds_toArray, List.set_cons_succ, List.set_cons_zero]; try rfl)
    case hs55 =>
      with_reducible refine ra_loadR (o := ?o56) (listed' := ?l56) (a' := ?a56) (x := ?x56) (b := ?b56) (T := 36) m1 ?hi56 ?hl56 ?hg56 ?ho56 ?hx56 ?hc56 ?ha56 ?hh56 ?hs56
      case hi56 => (simp only [List.getElem?_toArray, List.getElem?_cons_succ, List.getElem?_cons_zero]; try rfl)
      case hl56 => (simp only [List.setIfInBounds_toArray, List.set_cons_succ, List.set_cons_zero]; try rfl)
      case hg56 => rfl
      case ho56 => rfl
      case hx56 => rfl
      case hc56 => exact (obDrew HY.out)
      case ha56 => (simp only [Act.put, List.setIfInBounds_toArray, List.set_cons_succ, List.set_cons_zero]; try rfl)
      case hs56 =>
        exact AllReady.nil
      refine wpAny_ready (rs := [0]) (by kernel_rfl) (by simp) ?_
      with_reducible refine ra_loadC (o := ?o57) (listed' := ?l57) (a' := ?a57) (x := ?x57) (b := ?b57) (T := 30) e1 ?hi57 ?hl57 ?hg57 ?ho57 ?hx57 ?hc57 ?ha57 ?hh57 ?hs57
      case hi57 => (simp only [List.getElem?_toArray, List.getElem?_cons_zero]; try rfl)
      case hl57 => (simp only [List.setIfInBounds_toArray, List.set_cons_zero]; try rfl)
      case hg57 => rfl
      case ho57 => rfl
      case hx57 => rfl
      case hc57 => exact (obDrew HX.out)
      case ha57 => (simp only [Act.put, List.setIfInBounds_toArray, List.set_cons_succ, List.set_cons_zero]; try rfl)
      case hs57 =>
        exact AllReady.nil
      refine wpAny_ready (rs := [8]) (by kernel_rfl) (by simp) ?_
      with_reducible refine ra_storeC (o := ?o58) (listed' := ?l58) (x := ?x58) (y := ?y58) (b := ?b58) (T := 30) e1 ?hi58 ?hl58 ?hg58 ?ho58 ?hx58 ?hy58 ?hd58 ?hc58 ?hh58 ?hs58
      case hi58 => (simp only [List.getElem?_toArray, List.getElem?_cons_succ, List.getElem?_cons_zero]; try rfl)
      case hl58 => (simp only [List.setIfInBounds_toArray, List.set_cons_succ, List.set_cons_zero]; try rfl)
      case hg58 => rfl
      case ho58 => rfl
      case hx58 => rfl
      case hy58 => rfl
      case hd58 => rfl
      case hc58 => exact Ob.room (obDrew HZ.out)
      case hs58 =>
        exact AllReady.nil
      intro w7 hO hU
      have GZ := hid hO
      have GX : Hid (Ob w7 (w.heap.size) 30 e1) := hid (hU.ob ((obDrew HX.out)) (by omega))
      have GY : Hid (Ob w7 (w.heap.size + 1) 36 m1) := hid (hU.ob ((obDrew HY.out)) (by omega))
      have GA : Hid (w7.heap[w.heap.size + 2]? = some ((.cells #[.int .u8 k, .int .i64 b, .int .i64 t, p.v] 35))) := hid (hU.ob ((obDrew HA.out)) (by omega))
      have GV : Hid (Ob w7 (w.heap.size + 4) 36 zE) := hid (hU.ob ((obDrew HV.out)) (by omega))
      have GW := hid (((belowDrew HW.out)).trans (hU.below _ (by first | exact Nat.le_refl _ | omega)))
      clear hO hU
      clear kA0 kA1 kA2 kA3
      clear HX HY HA HZ HV HW
      have HX := GX
      clear GX
      have HY := GY
      clear GY
      have HA := GA
      clear GA
      have HZ := GZ
      clear GZ
      have HV := GV
      clear GV
      have HW := GW
      clear GW
      refine wpAny_ready (rs := [9]) (by kernel_rfl) (by simp) ?_
      with_reducible refine ra_storeR (o := ?o59) (listed' := ?l59) (x := ?x59) (y := ?y59) (b := ?b59) (T := 36) m1 ?hi59 ?hl59 ?hg59 ?ho59 ?hx59 ?hy59 ?hd59 ?hc59 ?hh59 ?hs59
      case hi59 => (simp only [List.getElem?_toArray, List.getElem?_cons_succ, List.getElem?_cons_zero]; try rfl)
      case hl59 => (simp only [List.setIfInBounds_toArray, List.set_cons_succ, List.set_cons_zero]; try rfl)
      case hg59 => rfl
      case ho59 => rfl
      case hx59 => rfl
      case hy59 => rfl
      case hd59 => rfl
      case hc59 => exact Ob.room HV.out
      case hs59 =>
        exact AllReady.nil
      intro w8 hO hU
      have GV := hid hO
      have GX : Hid (Ob w8 (w.heap.size) 30 e1) := hid (hU.ob (HX.out) (by omega))
      have GY : Hid (Ob w8 (w.heap.size + 1) 36 m1) := hid (hU.ob (HY.out) (by omega))
      have GA : Hid (w8.heap[w.heap.size + 2]? = some ((.cells #[.int .u8 k, .int .i64 b, .int .i64 t, p.v] 35))) := hid (hU.ob (HA.out) (by omega))
      have GZ : Hid (Ob w8 (w.heap.size + 3) 30 e1) := hid (hU.ob (HZ.out) (by omega))
      have GW := hid ((HW.out).trans (hU.below _ (by first | exact Nat.le_refl _ | omega)))
      clear hO hU
      clear HX HY HA HZ HV HW
      have HX := GX
      clear GX
      have HY := GY
      clear GY
      have HA := GA
      clear GA
      have HZ := GZ
      clear GZ
      have HV := GV
      clear GV
      have HW := GW
      clear GW
      refine wpAny_ready (rs := [10]) (by kernel_rfl) (by simp) ?_
      with_reducible refine ra_assign (o := ?o60) (listed' := ?l60) (a' := ?a60) (x := ?x60) (v := ?v60) ?hi60 ?hl60 ?hg60 ?ho60 ?hv60 ?ha60 ?hh60 ?hs60
      case hi60 => (simp only [List.getElem?_toArray, List.getElem?_cons_succ, List.getElem?_cons_zero]; try rfl)
      case hl60 => (simp only [List.setIfInBounds_toArray, List.set_cons_succ, List.set_cons_zero]; try rfl)
      case hg60 => rfl
      case ho60 => rfl
      case hv60 => rfl
      case ha60 => (simp only [Act.put, List.setIfInBounds_toArray, List.set_cons_succ, List.set_cons_zero]; try rfl)
      case hs60 =>
        exact AllReady.nil
      refine wpAny_done (by kernel_rfl) ?_ _
      go_wp2_with fail
      refine bodyPost_ret (ret_cell2_tmp rfl rfl rfl rfl (HZ.out).range Try.underlying30 rfl (infoEc e1) (HV.out).range Try.underlying36 rfl (infoE m1)) rfl ⟨⟨_, rfl⟩, HW.out⟩
    refine wpAny_ready (rs := [1, 8]) (by kernel_rfl) (by simp) ?_
    with_reducible refine ra_loadR (o := ?o61) (listed' := ?l61) (a' := ?a61) (x := ?x61) (b := ?b61) (T := 36) m1 ?hi61 ?hl61 ?hg61 ?ho61 ?hx61 ?hc61 ?ha61 ?hh61 ?hs61
    case hi61 => (simp only [List.getElem?_toArray, List.getElem?_cons_succ, List.getElem?_cons_zero]; try rfl)
    case hl61 => (simp only [List.setIfInBounds_toArray, List.set_cons_succ, List.set_cons_zero]; try rfl)
    case hg61 => rfl
    case ho61 => rfl
    case hx61 => rfl
    case hc61 => exact (obDrew HY.out)
    case ha61 => (simp only [Act.put, List.setIfInBounds_toArray, List.set_cons_succ, List.set_cons_zero]; try rfl)
    case hs61 =>
      with_reducible refine ra_storeC (o := ?o62) (listed' := ?l62) (x := ?x62) (y := ?y62) (b := ?b62) (T := 30) e1 ?hi62 ?hl62 ?hg62 ?ho62 ?hx62 ?hy62 ?hd62 ?hc62 ?hh62 ?hs62
      case hi62 => (simp only [List.getElem?_toArray, List.getElem?_cons_succ, List.getElem?_cons_zero]; try rfl)
      case hl62 => (simp only [List.setIfInBounds_toArray, List.set_cons_succ, List.set_cons_zero]; try rfl)
      case hg62 => rfl
      case ho62 => rfl
      case hx62 => rfl
      case hy62 => rfl
      case hd62 => rfl
      case hc62 => exact Ob.room (obDrew HZ.out)
      case hs62 =>
        exact AllReady.nil
      intro w9 hO hU
      have GZ := hid hO
      have GX : Hid (Ob w9 (w.heap.size) 30 e1) := hid (hU.ob ((obDrew HX.out)) (by omega))
      have GY : Hid (Ob w9 (w.heap.size + 1) 36 m1) := hid (hU.ob ((obDrew HY.out)) (by omega))
      have GA : Hid (w9.heap[w.heap.size + 2]? = some ((.cells #[.int .u8 k, .int .i64 b, .int .i64 t, p.v] 35))) := hid (hU.ob ((obDrew HA.out)) (by omega))
      have GV : Hid (Ob w9 (w.heap.size + 4) 36 zE) := hid (hU.ob ((obDrew HV.out)) (by omega))
      have GW := hid (((belowDrew HW.out)).trans (hU.below _ (by first | exact Nat.le_refl _ | omega)))
      clear hO hU
      clear kA0 kA1 kA2 kA3
      clear HX HY HA HZ HV HW
      have HX := GX
      clear GX
      have HY := GY
      clear GY
      have HA := GA
      clear GA
      have HZ := GZ
      clear GZ
      have HV := GV
      clear GV
      have HW := GW
      clear GW
      refine wpAny_ready (rs := [1]) (by kernel_rfl) (by simp) ?_
      with_reducible refine ra_loadR (o := ?o63) (listed' := ?l63) (a' := ?a63) (x := ?x63) (b := ?b63) (T := 36) m1 ?hi63 ?hl63 ?hg63 ?ho63 ?hx63 ?hc63 ?ha63 ?hh63 ?hs63
      case hi63 => (simp only [List.getElem?_toArray, List.getElem?_cons_succ, List.getElem?_cons_zero]; try rfl)
      case hl63 => (simp only [List.setIfInBounds_toArray, List.set_cons_succ, List.set_cons_zero]; try rfl)
      case hg63 => rfl
      case ho63 => rfl
      case hx63 => rfl
      case hc63 => exact HY.out
      case ha63 => (simp only [Act.put, List.setIfInBounds_toArray, List.set_cons_succ, List.set_cons_zero]; try rfl)
      case hs63 =>
        exact AllReady.nil
      refine wpAny_ready (rs := [9]) (by kernel_rfl) (by simp) ?_
      with_reducible refine ra_storeR (o := ?o64) (listed' := ?l64) (x := ?x64) (y := ?y64) (b := ?b64) (T := 36) m1 ?hi64 ?hl64 ?hg64 ?ho64 ?hx64 ?hy64 ?hd64 ?hc64 ?hh64 ?hs64
      case hi64 => (simp only [List.getElem?_toArray, List.getElem?_cons_succ, List.getElem?_cons_zero]; try rfl)
      case hl64 => (simp only [List.setIfInBounds_toArray, List.set_cons_succ, List.set_cons_zero]; try rfl)
      case hg64 => rfl
      case ho64 => rfl
      case hx64 => rfl
      case hy64 => rfl
      case hd64 => rfl
      case hc64 => exact Ob.room HV.out
      case hs64 =>
        exact AllReady.nil
      intro w10 hO hU
      have GV := hid hO
      have GX : Hid (Ob w10 (w.heap.size) 30 e1) := hid (hU.ob (HX.out) (by omega))
      have GY : Hid (Ob w10 (w.heap.size + 1) 36 m1) := hid (hU.ob (HY.out) (by omega))
      have GA : Hid (w10.heap[w.heap.size + 2]? = some ((.cells #[.int .u8 k, .int .i64 b, .int .i64 t, p.v] 35))) := hid (hU.ob (HA.out) (by omega))
      have GZ : Hid (Ob w10 (w.heap.size + 3) 30 e1) := hid (hU.ob (HZ.out) (by omega))
      have GW := hid ((HW.out).trans (hU.below _ (by first | exact Nat.le_refl _ | omega)))
      clear hO hU
      clear HX HY HA HZ HV HW
      have HX := GX
      clear GX
      have HY := GY
      clear GY
      have HA := GA
      clear GA
      have HZ := GZ
      clear GZ
      have HV := GV
      clear GV
      have HW := GW
      clear GW
      refine wpAny_ready (rs := [10]) (by kernel_rfl) (by simp) ?_
      with_reducible refine ra_assign (o := ?o65) (listed' := ?l65) (a' := ?a65) (x := ?x65) (v := ?v65) ?hi65 ?hl65 ?hg65 ?ho65 ?hv65 ?ha65 ?hh65 ?hs65
      case hi65 => (simp only [List.getElem?_toArray, List.getElem?_cons_succ, List.getElem?_cons_zero]; try rfl)
      case hl65 => (simp only [List.setIfInBounds_toArray, List.set_cons_succ, List.set_cons_zero]; try rfl)
      case hg65 => rfl
      case ho65 => rfl
      case hv65 => rfl
      case ha65 => (simp only [Act.put, List.setIfInBounds_toArray, List.set_cons_succ, List.set_cons_zero]; try rfl)
      case hs65 =>
        exact AllReady.nil
      refine wpAny_done (by kernel_rfl) ?_ _
      go_wp2_with fail
      refine bodyPost_ret (ret_cell2_tmp rfl rfl rfl rfl (HZ.out).range Try.underlying30 rfl (infoEc e1) (HV.out).range Try.underlying36 rfl (infoE m1)) rfl ⟨⟨_, rfl⟩, HW.out⟩
    refine wpAny_ready (rs := [8]) (by kernel_rfl) (by simp) ?_
    with_reducible refine ra_storeC (o := ?o66) (listed' := ?l66) (x := ?x66) (y := ?y66) (b := ?b66) (T := 30) e1 ?hi66 ?hl66 ?hg66 ?ho66 ?hx66 ?hy66 ?hd66 ?hc66 ?hh66 ?hs66
    case hi66 => (simp only [List.getElem?_toArray, List.getElem?_cons_succ, List.getElem?_cons_zero]; try rfl)
    case hl66 => (simp only [List.setIfInBounds_toArray, List.set_cons_succ, List.set_cons_zero]; try rfl)
    case hg66 => rfl
    case ho66 => rfl
    case hx66 => rfl
    case hy66 => rfl
    case hd66 => rfl
    case hc66 => exact Ob.room (obDrew HZ.out)
    case hs66 =>
      exact AllReady.nil
    intro w11 hO hU
    have GZ := hid hO
    have GX : Hid (Ob w11 (w.heap.size) 30 e1) := hid (hU.ob ((obDrew HX.out)) (by omega))
    have GY : Hid (Ob w11 (w.heap.size + 1) 36 m1) := hid (hU.ob ((obDrew HY.out)) (by omega))
    have GA : Hid (w11.heap[w.heap.size + 2]? = some ((.cells #[.int .u8 k, .int .i64 b, .int .i64 t, p.v] 35))) := hid (hU.ob ((obDrew HA.out)) (by omega))
    have GV : Hid (Ob w11 (w.heap.size + 4) 36 zE) := hid (hU.ob ((obDrew HV.out)) (by omega))
    have GW := hid (((belowDrew HW.out)).trans (hU.below _ (by first | exact Nat.le_refl _ | omega)))
    clear hO hU
    clear kA0 kA1 kA2 kA3
    clear HX HY HA HZ HV HW
    have HX := GX
    clear GX
    have HY := GY
    clear GY
    have HA := GA
    clear GA
    have HZ := GZ
    clear GZ
    have HV := GV
    clear GV
    have HW := GW
    clear GW
    refine wpAny_ready (rs := [9]) (by kernel_rfl) (by simp) ?_
    with_reducible refine ra_storeR (o := ?o67) (listed' := ?l67) (x := ?x67) (y := ?y67) (b := ?b67) (T := 36) m1 ?hi67 ?hl67 ?hg67 ?ho67 ?hx67 ?hy67 ?hd67 ?hc67 ?hh67 ?hs67
    case hi67 => (simp only [List.getElem?_toArray, List.getElem?_cons_succ, List.getElem?_cons_zero]; try rfl)
    case hl67 => (simp only [List.setIfInBounds_toArray, List.set_cons_succ, List.set_cons_zero]; try rfl)
    case hg67 => rfl
    case ho67 => rfl
    case hx67 => rfl
    case hy67 => rfl
    case hd67 => rfl
    case hc67 => exact Ob.room HV.out
    case hs67 =>
      exact AllReady.nil
    intro w12 hO hU
    have GV := hid hO
    have GX : Hid (Ob w12 (w.heap.size) 30 e1) := hid (hU.ob (HX.out) (by omega))
    have GY : Hid (Ob w12 (w.heap.size + 1) 36 m1) := hid (hU.ob (HY.out) (by omega))
    have GA : Hid (w12.heap[w.heap.size + 2]? = some ((.cells #[.int .u8 k, .int .i64 b, .int .i64 t, p.v] 35))) := hid (hU.ob (HA.out) (by omega))
    have GZ : Hid (Ob w12 (w.heap.size + 3) 30 e1) := hid (hU.ob (HZ.out) (by omega))
    have GW := hid ((HW.out).trans (hU.below _ (by first | exact Nat.le_refl _ | omega)))
    clear hO hU
    clear HX HY HA HZ HV HW
    have HX := GX
    clear GX
    have HY := GY
    clear GY
    have HA := GA
    clear GA
    have HZ := GZ
    clear GZ
    have HV := GV
    clear GV
    have HW := GW
    clear GW
    refine wpAny_ready (rs := [10]) (by kernel_rfl) (by simp) ?_
    with_reducible refine ra_assign (o := ?o68) (listed' := ?l68) (a' := ?a68) (x := ?x68) (v := ?v68) ?hi68 ?hl68 ?hg68 ?ho68 ?hv68 ?ha68 ?hh68 ?hs68
    case hi68 => (simp only [List.getElem?_toArray, List.getElem?_cons_succ, List.getElem?_cons_zero]; try rfl)
    case hl68 => (simp only [List.setIfInBounds_toArray, List.set_cons_succ, List.set_cons_zero]; try rfl)
    case hg68 => rfl
    case ho68 => rfl
    case hv68 => rfl
    case ha68 => (simp only [Act.put, List.setIfInBounds_toArray, List.set_cons_succ, List.set_cons_zero]; try rfl)
    case hs68 =>
      exact AllReady.nil
    refine wpAny_done (by kernel_rfl) ?_ _
    go_wp2_with fail
    refine bodyPost_ret (ret_cell2_tmp rfl rfl rfl rfl (HZ.out).range Try.underlying30 rfl (infoEc e1) (HV.out).range Try.underlying36 rfl (infoE m1)) rfl ⟨⟨_, rfl⟩, HW.out⟩
  | true =>
    refine ra_start (n := 11) (listed := #[false, false, false, false, false, false, false, false, false, false, false]) (by kernel_rfl) rfl rfl ?_
    refine ra_take (i := 2) (o := ?o69) (v := ?v69) (listed' := ?l69) (a' := ?a69) ?hi69 (by kernel_rfl) (by kernel_rfl) (by kernel_rfl) ?hq69 ?hl69 ?hw69 ?hv69 ?ha69 ?hh69
    case hi69 => (simp only [List.getElem?_toArray, List.getElem?_cons_succ, List.getElem?_cons_zero]; try rfl)
    case hq69 => exact fun _ _ _ h => h
    case hl69 => (simp only [List.setIfInBounds_toArray, List.set_cons_succ, List.set_cons_zero]; try rfl)
    case hw69 => rfl
    case hv69 =>
      intro w
      go_simp
      try with_reducible rfl
    case ha69 => (simp only [Act.put, List.setIfInBounds_toArray, List.set_cons_succ, List.set_cons_zero]; try rfl)
    refine ra_take (i := 3) (o := ?o70) (v := ?v70) (listed' := ?l70) (a' := ?a70) ?hi70 (by kernel_rfl) (by kernel_rfl) (by kernel_rfl) ?hq70 ?hl70 ?hw70 ?hv70 ?ha70 ?hh70
    case hi70 => (simp only [List.getElem?_toArray, List.getElem?_cons_succ, List.getElem?_cons_zero]; try rfl)
    case hq70 => exact fun _ _ _ h => h
    case hl70 => (simp only [List.setIfInBounds_toArray, List.set_cons_succ, List.set_cons_zero]; try rfl)
    case hw70 => rfl
    case hv70 =>
      intro w
      go_simp
      try with_reducible rfl
    case ha70 => (simp only [Act.put, List.setIfInBounds_toArray, List.set_cons_succ, List.set_cons_zero]; try rfl)
    refine ra_take (i := 4) (o := ?o71) (v := ?v71) (listed' := ?l71) (a' := ?a71) ?hi71 (by kernel_rfl) (by kernel_rfl) (by kernel_rfl) ?hq71 ?hl71 ?hw71 ?hv71 ?ha71 ?hh71
    case hi71 => (simp only [List.getElem?_toArray, List.getElem?_cons_succ, List.getElem?_cons_zero]; try rfl)
    case hq71 => exact fun _ _ _ h => h
    case hl71 => (simp only [List.setIfInBounds_toArray, List.set_cons_succ, List.set_cons_zero]; try rfl)
    case hw71 => rfl
    case hv71 =>
      intro w
      go_simp
      try with_reducible rfl
    case ha71 => (simp only [Act.put, List.setIfInBounds_toArray, List.set_cons_succ, List.set_cons_zero]; try rfl)
    refine ra_take (i := 5) (o := ?o72) (v := ?v72) (listed' := ?l72) (a' := ?a72) ?hi72 (by kernel_rfl) (by kernel_rfl) (by kernel_rfl) ?hq72 ?hl72 ?hw72 ?hv72 ?ha72 ?hh72
    case hi72 => (simp only [List.getElem?_toArray, List.getElem?_cons_succ, List.getElem?_cons_zero]; try rfl)
    case hq72 => exact fun _ _ _ h => h
    case hl72 => (simp only [List.setIfInBounds_toArray, List.set_cons_succ, List.set_cons_zero]; try rfl)
    case hw72 => rfl
    case hv72 =>
      intro w
      go_simp
      try with_reducible rfl
    case ha72 => (simp only [Act.put, List.setIfInBounds_toArray, List.set_cons_succ, List.set_cons_zero]; try rfl)
    refine ra_take (i := 6) (o := ?o73) (v := ?v73) (listed' := ?l73) (a' := ?a73) ?hi73 (by kernel_rfl) (by kernel_rfl) (by kernel_rfl) ?hq73 ?hl73 ?hw73 ?hv73 ?ha73 ?hh73
    case hi73 => (simp only [List.getElem?_toArray, List.getElem?_cons_succ, List.getElem?_cons_zero]; try rfl)
    case hq73 => exact fun _ _ _ h => h
    case hl73 => (simp only [List.setIfInBounds_toArray, List.set_cons_succ, List.set_cons_zero]; try rfl)
    case hw73 => rfl
    case hv73 =>
      intro w
      go_simp
      try with_reducible rfl
    case ha73 => (simp only [Act.put, List.setIfInBounds_toArray, List.set_cons_succ, List.set_cons_zero]; try rfl)
    refine ra_take (i := 7) (o := ?o74) (v := ?v74) (listed' := ?l74) (a' := ?a74) ?hi74 (by kernel_rfl) (by kernel_rfl) (by kernel_rfl) ?hq74 ?hl74 ?hw74 ?hv74 ?ha74 ?hh74
    case hi74 => (simp only [List.getElem?_toArray, List.getElem?_cons_succ, List.getElem?_cons_zero]; try rfl)
    case hq74 => exact fun _ _ _ h => h
    case hl74 => (simp only [List.setIfInBounds_toArray, List.set_cons_succ, List.set_cons_zero]; try rfl)
    case hw74 => rfl
    case hv74 =>
      intro w
      go_simp
      try with_reducible rfl
    case ha74 => (simp only [Act.put, List.setIfInBounds_toArray, List.set_cons_succ, List.set_cons_zero]; try rfl)
    refine wpAny_ready (rs := [0, 1]) (by kernel_rfl) (by simp) ?_
    with_reducible refine ra_loadC (o := ?o75) (listed' := ?l75) (a' := ?a75) (x := ?x75) (b := ?b75) (T := 30) e1 ?hi75 ?hl75 ?hg75 ?ho75 ?hx75 ?hc75 ?ha75 ?hh75 ?hs75
    case hi75 => (simp only [List.getElem?_toArray, List.getElem?_cons_zero]; try rfl)
    case hl75 => (simp only [List.setIfInBounds_toArray, List.set_cons_zero]; try rfl)
    case hg75 => rfl
    case ho75 => rfl
    case hx75 => rfl
    case hc75 => exact (obDrew HX.out)
    case ha75 => (simp only [Act.put, List.setIfInBounds_toArray, List.set_cons_succ, List.set_cons_zero]; try rfl)
    case hs75 =>
      with_reducible refine ra_loadR (o := ?o76) (listed' := ?l76) (a' := ?a76) (x := ?x76) (b := ?b76) (T := 36) m1 ?hi76 ?hl76 ?hg76 ?ho76 ?hx76 ?hc76 ?ha76 ?hh76 ?hs76
      case hi76 => (simp only [List.getElem?_toArray, List.getElem?_cons_succ, List.getElem?_cons_zero]; try rfl)
      case hl76 => (simp only [List.setIfInBounds_toArray, List.set_cons_succ, List.set_cons_zero]; try rfl)
      case hg76 => rfl
      case ho76 => rfl
      case hx76 => rfl
      case hc76 => exact (obDrew HY.out)
      case ha76 => (simp only [Act.put, List.setIfInBounds_toArray, List.set_cons_succ, List.set_cons_zero]; try rfl)
      case hs76 =>
        exact AllReady.nil
      refine wpAny_ready (rs := [0]) (by kernel_rfl) (by simp) ?_
      with_reducible refine ra_loadC (o := ?o77) (listed' := ?l77) (a' := ?a77) (x := ?x77) (b := ?b77) (T := 30) e1 ?hi77 ?hl77 ?hg77 ?ho77 ?hx77 ?hc77 ?ha77 ?hh77 ?hs77
      case hi77 => (simp only [List.getElem?_toArray, List.getElem?_cons_zero]; try rfl)
      case hl77 => (simp only [List.setIfInBounds_toArray, List.set_cons_zero]; try rfl)
      case hg77 => rfl
      case ho77 => rfl
      case hx77 => rfl
      case hc77 => exact (obDrew HX.out)
      case ha77 => (simp only [Act.put, List.setIfInBounds_toArray, List.set_cons_succ, List.set_cons_zero]; try rfl)
      case hs77 =>
        exact AllReady.nil
      refine wpAny_ready (rs := [8]) (by kernel_rfl) (by simp) ?_
      with_reducible refine ra_storeC (o := ?o78) (listed' := ?l78) (x := ?x78) (y := ?y78) (b := ?b78) (T := 30) e1 ?hi78 ?hl78 ?hg78 ?ho78 ?hx78 ?hy78 ?hd78 ?hc78 ?hh78 ?hs78
      case hi78 => (simp only [List.getElem?_toArray, List.getElem?_cons_succ, List.getElem?_cons_zero]; try rfl)
      case hl78 => (simp only [List.setIfInBounds_toArray, List.set_cons_succ, List.set_cons_zero]; try rfl)
      case hg78 => rfl
      case ho78 => rfl
      case hx78 => rfl
      case hy78 => rfl
      case hd78 => rfl
      case hc78 => exact Ob.room (obDrew HZ.out)
      case hs78 =>
        exact AllReady.nil
      intro w7 hO hU
      have GZ := hid hO
      have GX : Hid (Ob w7 (w.heap.size) 30 e1) := hid (hU.ob ((obDrew HX.out)) (by omega))
      have GY : Hid (Ob w7 (w.heap.size + 1) 36 m1) := hid (hU.ob ((obDrew HY.out)) (by omega))
      have GA : Hid (w7.heap[w.heap.size + 2]? = some ((.cells #[.int .u8 k, .int .i64 b, .int .i64 t, p.v] 35))) := hid (hU.ob ((obDrew HA.out)) (by omega))
      have GV : Hid (Ob w7 (w.heap.size + 4) 36 zE) := hid (hU.ob ((obDrew HV.out)) (by omega))
      have GW := hid (((belowDrew HW.out)).trans (hU.below _ (by first | exact Nat.le_refl _ | omega)))
      clear hO hU
      clear kA0 kA1 kA2 kA3
      clear HX HY HA HZ HV HW
      have HX := GX
      clear GX
      have HY := GY
      clear GY
      have HA := GA
      clear GA
      have HZ := GZ
      clear GZ
      have HV := GV
      clear GV
      have HW := GW
      clear GW
      refine wpAny_ready (rs := [9]) (by kernel_rfl) (by simp) ?_
      with_reducible refine ra_storeR (o := ?o79) (listed' := ?l79) (x := ?x79) (y := ?y79) (b := ?b79) (T := 36) m1 ?hi79 ?hl79 ?hg79 ?ho79 ?hx79 ?hy79 ?hd79 ?hc79 ?hh79 ?hs79
      case hi79 => (simp only [List.getElem?_toArray, List.getElem?_cons_succ, List.getElem?_cons_zero]; try rfl)
      case hl79 => (simp only [List.setIfInBounds_toArray, List.set_cons_succ, List.set_cons_zero]; try rfl)
      case hg79 => rfl
      case ho79 => rfl
      case hx79 => rfl
      case hy79 => rfl
      case hd79 => rfl
      case hc79 => exact Ob.room HV.out
      case hs79 =>
        exact AllReady.nil
      intro w8 hO hU
      have GV := hid hO
      have GX : Hid (Ob w8 (w.heap.size) 30 e1) := hid (hU.ob (HX.out) (by omega))
      have GY : Hid (Ob w8 (w.heap.size + 1) 36 m1) := hid (hU.ob (HY.out) (by omega))
      have GA : Hid (w8.heap[w.heap.size + 2]? = some ((.cells #[.int .u8 k, .int .i64 b, .int .i64 t, p.v] 35))) := hid (hU.ob (HA.out) (by omega))
      have GZ : Hid (Ob w8 (w.heap.size + 3) 30 e1) := hid (hU.ob (HZ.out) (by omega))
      have GW := hid ((HW.out).trans (hU.below _ (by first | exact Nat.le_refl _ | omega)))
      clear hO hU
      clear HX HY HA HZ HV HW
      have HX := GX
      clear GX
      have HY := GY
      clear GY
      have HA := GA
      clear GA
      have HZ := GZ
      clear GZ
      have HV := GV
      clear GV
      have HW := GW
      clear GW
      refine wpAny_ready (rs := [10]) (by kernel_rfl) (by simp) ?_
      with_reducible refine ra_assign (o := ?o80) (listed' := ?l80) (a' := ?a80) (x := ?x80) (v := ?v80) ?hi80 ?hl80 ?hg80 ?ho80 ?hv80 ?ha80 ?hh80 ?hs80
      case hi80 => (simp only [List.getElem?_toArray, List.getElem?_cons_succ, List.getElem?_cons_zero]; try rfl)
      case hl80 => (simp only [List.setIfInBounds_toArray, List.set_cons_succ, List.set_cons_zero]; try rfl)
      case hg80 => rfl
      case ho80 => rfl
      case hv80 => rfl
      case ha80 => (simp only [Act.put, List.setIfInBounds_toArray, List.set_cons_succ, List.set_cons_zero]; try rfl)
      case hs80 =>
        exact AllReady.nil
      refine wpAny_done (by kernel_rfl) ?_ _
      go_wp2_with fail
      refine bodyPost_ret (ret_cell2_tmp rfl rfl rfl rfl (HZ.out).range Try.underlying30 rfl (infoEc e1) (HV.out).range Try.underlying36 rfl (infoE m1)) rfl ⟨⟨_, rfl⟩, HW.out⟩
    refine wpAny_ready (rs := [1, 8]) (by kernel_rfl) (by simp) ?_
    with_reducible refine ra_loadR (o := ?o81) (listed' := ?l81) (a' := ?a81) (x := ?x81) (b := ?b81) (T := 36) m1 ?hi81 ?hl81 ?hg81 ?ho81 ?hx81 ?hc81 ?ha81 ?hh81 ?hs81
    case hi81 => (simp only [List.getElem?_toArray, List.getElem?_cons_succ, List.getElem?_cons_zero]; try rfl)
    case hl81 => (simp only [List.setIfInBounds_toArray, List.set_cons_succ, List.set_cons_zero]; try rfl)
    case hg81 => rfl
    case ho81 => rfl
    case hx81 => rfl
    case hc81 => exact (obDrew HY.out)
    case ha81 => (simp only [Act.put, List.setIfInBounds_toArray, List.set_cons_succ, List.set_cons_zero]; try rfl)
    case hs81 =>
      with_reducible refine ra_storeC (o := ?o82) (listed' := ?l82) (x := ?x82) (y := ?y82) (b := ?b82) (T := 30) e1 ?hi82 ?hl82 ?hg82 ?ho82 ?hx82 ?hy82 ?hd82 ?hc82 ?hh82 ?hs82
      case hi82 => (simp only [List.getElem?_toArray, List.getElem?_cons_succ, List.getElem?_cons_zero]; try rfl)
      case hl82 => (simp only [List.setIfInBounds_toArray, List.set_cons_succ, List.set_cons_zero]; try rfl)
      case hg82 => rfl
      case ho82 => rfl
      case hx82 => rfl
      case hy82 => rfl
      case hd82 => rfl
      case hc82 => exact Ob.room (obDrew HZ.out)
      case hs82 =>
        exact AllReady.nil
      intro w9 hO hU
      have GZ := hid hO
      have GX : Hid (Ob w9 (w.heap.size) 30 e1) := hid (hU.ob ((obDrew HX.out)) (by omega))
      have GY : Hid (Ob w9 (w.heap.size + 1) 36 m1) := hid (hU.ob ((obDrew HY.out)) (by omega))
      have GA : Hid (w9.heap[w.heap.size + 2]? = some ((.cells #[.int .u8 k, .int .i64 b, .int .i64 t, p.v] 35))) := hid (hU.ob ((obDrew HA.out)) (by omega))
      have GV : Hid (Ob w9 (w.heap.size + 4) 36 zE) := hid (hU.ob ((obDrew HV.out)) (by omega))
      have GW := hid (((belowDrew HW.out)).trans (hU.below _ (by first | exact Nat.le_refl _ | omega)))
      clear hO hU
      clear kA0 kA1 kA2 kA3
      clear HX HY HA HZ HV HW
      have HX := GX
      clear GX
      have HY := GY
      clear GY
      have HA := GA
      clear GA
      have HZ := GZ
      clear GZ
      have HV := GV
      clear GV
      have HW := GW
      clear GW
      refine wpAny_ready (rs := [1]) (by kernel_rfl) (by simp) ?_
      with_reducible refine ra_loadR (o := ?o83) (listed' := ?l83) (a' := ?a83) (x := ?x83) (b := ?b83) (T := 36) m1 ?hi83 ?hl83 ?hg83 ?ho83 ?hx83 ?hc83 ?ha83 ?hh83 ?hs83
      case hi83 => (simp only [List.getElem?_toArray, List.getElem?_cons_succ, List.getElem?_cons_zero]; try rfl)
      case hl83 => (simp only [List.setIfInBounds_toArray, List.set_cons_succ, List.set_cons_zero]; try rfl)
      case hg83 => rfl
      case ho83 => rfl
      case hx83 => rfl
      case hc83 => exact HY.out
      case ha83 => (simp only [Act.put, List.setIfInBounds_toArray, List.set_cons_succ, List.set_cons_zero]; try rfl)
      case hs83 =>
        exact AllReady.nil
      refine wpAny_ready (rs := [9]) (by kernel_rfl) (by simp) ?_
      with_reducible refine ra_storeR (o := ?o84) (listed' := ?l84) (x := ?x84) (y := ?y84) (b := ?b84) (T := 36) m1 ?hi84 ?hl84 ?hg84 ?ho84 ?hx84 ?hy84 ?hd84 ?hc84 ?hh84 ?hs84
      case hi84 => (simp only [List.getElem?_toArray, List.getElem?_cons_succ, List.getElem?_cons_zero]; try rfl)
      case hl84 => (simp only [List.setIfInBounds_toArray, List.set_cons_succ, List.set_cons_zero]; try rfl)
      case hg84 => rfl
      case ho84 => rfl
      case hx84 => rfl
      case hy84 => rfl
      case hd84 => rfl
      case hc84 => exact Ob.room HV.out
      case hs84 =>
        exact AllReady.nil
      intro w10 hO hU
      have GV := hid hO
      have GX : Hid (Ob w10 (w.heap.size) 30 e1) := hid (hU.ob (HX.out) (by omega))
      have GY : Hid (Ob w10 (w.heap.size + 1) 36 m1) := hid (hU.ob (HY.out) (by omega))
      have GA : Hid (w10.heap[w.heap.size + 2]? = some ((.cells #[.int .u8 k, .int .i64 b, .int .i64 t, p.v] 35))) := hid (hU.ob (HA.out) (by omega))
      have GZ : Hid (Ob w10 (w.heap.size + 3) 30 e1) := hid (hU.ob (HZ.out) (by omega))
      have GW := hid ((HW.out).trans (hU.below _ (by first | exact Nat.le_refl _ | omega)))
      clear hO hU
      clear HX HY HA HZ HV HW
      have HX := GX
      clear GX
      have HY := GY
      clear GY
      have HA := GA
      clear GA
      have HZ := GZ
      clear GZ
      have HV := GV
      clear GV
      have HW := GW
      clear GW
      refine wpAny_ready (rs := [10]) (by kernel_rfl) (by simp) ?_
      with_reducible refine ra_assign (o := ?o85) (listed' := ?l85) (a' := ?a85) (x := ?x85) (v := ?v85) ?hi85 ?hl85 ?hg85 ?ho85 ?hv85 ?ha85 ?hh85 ?hs85
      case hi85 => (simp only [List.getElem?_toArray, List.getElem?_cons_succ, List.getElem?_cons_zero]; try rfl)
      case hl85 => (simp only [List.setIfInBounds_toArray, List.set_cons_succ, List.set_cons_zero]; try rfl)
      case hg85 => rfl
      case ho85 => rfl
      case hv85 => rfl
      case ha85 => (simp only [Act.put, List.setIfInBounds_toArray, List.set_cons_succ, List.set_cons_zero]; try rfl)
      case hs85 =>
        exact AllReady.nil
      refine wpAny_done (by kernel_rfl) ?_ _
      go_wp2_with fail
      refine bodyPost_ret (ret_cell2_tmp rfl rfl rfl rfl (HZ.out).range Try.underlying30 rfl (infoEc e1) (HV.out).range Try.underlying36 rfl (infoE m1)) rfl ⟨⟨_, rfl⟩, HW.out⟩
    refine wpAny_ready (rs := [8]) (by kernel_rfl) (by simp) ?_
    with_reducible refine ra_storeC (o := ?o86) (listed' := ?l86) (x := ?x86) (y := ?y86) (b := ?b86) (T := 30) e1 ?hi86 ?hl86 ?hg86 ?ho86 ?hx86 ?hy86 ?hd86 ?hc86 ?hh86 ?hs86
    case hi86 => (simp only [List.getElem?_toArray, List.getElem?_cons_succ, List.getElem?_cons_zero]; try rfl)
    case hl86 => (simp only [List.setIfInBounds_toArray, List.set_cons_succ, List.set_cons_zero]; try rfl)
    case hg86 => rfl
    case ho86 => rfl
    case hx86 => rfl
    case hy86 => rfl
    case hd86 => rfl
    case hc86 => exact Ob.room (obDrew HZ.out)
    case hs86 =>
      exact AllReady.nil
    intro w11 hO hU
    have GZ := hid hO
    have GX : Hid (Ob w11 (w.heap.size) 30 e1) := hid (hU.ob ((obDrew HX.out)) (by omega))
    have GY : Hid (Ob w11 (w.heap.size + 1) 36 m1) := hid (hU.ob ((obDrew HY.out)) (by omega))
    have GA : Hid (w11.heap[w.heap.size + 2]? = some ((.cells #[.int .u8 k, .int .i64 b, .int .i64 t, p.v] 35))) := hid (hU.ob ((obDrew HA.out)) (by omega))
    have GV : Hid (Ob w11 (w.heap.size + 4) 36 zE) := hid (hU.ob ((obDrew HV.out)) (by omega))
    have GW := hid (((belowDrew HW.out)).trans (hU.below _ (by first | exact Nat.le_refl _ | omega)))
    clear hO hU
    clear kA0 kA1 kA2 kA3
    clear HX HY HA HZ HV HW
    have HX := GX
    clear GX
    have HY := GY
    clear GY
    have HA := GA
    clear GA
    have HZ := GZ
    clear GZ
    have HV := GV
    clear GV
    have HW := GW
    clear GW
    refine wpAny_ready (rs := [9]) (by kernel_rfl) (by simp) ?_
    with_reducible refine ra_storeR (o := ?o87) (listed' := ?l87) (x := ?x87) (y := ?y87) (b := ?b87) (T := 36) m1 ?hi87 ?hl87 ?hg87 ?ho87 ?hx87 ?hy87 ?hd87 ?hc87 ?hh87 ?hs87
    case hi87 => (simp only [List.getElem?_toArray, List.getElem?_cons_succ, List.getElem?_cons_zero]; try rfl)
    case hl87 => (simp only [List.setIfInBounds_toArray, List.set_cons_succ, List.set_cons_zero]; try rfl)
    case hg87 => rfl
    case ho87 => rfl
    case hx87 => rfl
    case hy87 => rfl
    case hd87 => rfl
    case hc87 => exact Ob.room HV.out
    case hs87 =>
      exact AllReady.nil
    intro w12 hO hU
    have GV := hid hO
    have GX : Hid (Ob w12 (w.heap.size) 30 e1) := hid (hU.ob (HX.out) (by omega))
    have GY : Hid (Ob w12 (w.heap.size + 1) 36 m1) := hid (hU.ob (HY.out) (by omega))
    have GA : Hid (w12.heap[w.heap.size + 2]? = some ((.cells #[.int .u8 k, .int .i64 b, .int .i64 t, p.v] 35))) := hid (hU.ob (HA.out) (by omega))
    have GZ : Hid (Ob w12 (w.heap.size + 3) 30 e1) := hid (hU.ob (HZ.out) (by omega))
    have GW := hid ((HW.out).trans (hU.below _ (by first | exact Nat.le_refl _ | omega)))
    clear hO hU
    clear HX HY HA HZ HV HW
    have HX := GX
    clear GX
    have HY := GY
    clear GY
    have HA := GA
    clear GA
    have HZ := GZ
    clear GZ
    have HV := GV
    clear GV
    have HW := GW
    clear GW
    refine wpAny_ready (rs := [10]) (by kernel_rfl) (by simp) ?_
    with_reducible refine ra_assign (o := ?o88) (listed' := ?l88) (a' := ?a88) (x := ?x88) (v := ?v88) ?hi88 ?hl88 ?hg88 ?ho88 ?hv88 ?ha88 ?hh88 ?hs88
    case hi88 => (simp only [List.getElem?_toArray, List.getElem?_cons_succ, List.getElem?_cons_zero]; try rfl)
    case hl88 => (simp only [List.setIfInBounds_toArray, List.set_cons_succ, List.set_cons_zero]; try rfl)
    case hg88 => rfl
    case ho88 => rfl
    case hv88 => rfl
    case ha88 => (simp only [Act.put, List.setIfInBounds_toArray, List.set_cons_succ, List.set_cons_zero]; try rfl)
    case hs88 =>
      exact AllReady.nil
    refine wpAny_done (by kernel_rfl) ?_ _
    go_wp2_with fail
    refine bodyPost_ret (ret_cell2_tmp rfl rfl rfl rfl (HZ.out).range Try.underlying30 rfl (infoEc e1) (HV.out).range Try.underlying36 rfl (infoE m1)) rfl ⟨⟨_, rfl⟩, HW.out⟩
set_option maxHeartbeats 8000000 in
set_option maxRecDepth 100000 in
theorem step_2 {e m e1 m1 : Ev} {f1 g1 : Int} {s : Bool} {k b t : Int} {p : Sv} {w : World} (hk : k.tmod 6 = 2) (HC : ∀ W, Below w.heap.size w W → Calls Try.prog 23 #[.agg e.arr, .agg #[.int .i64 t, .slice p.a p.n p.c]] W fun x w' => x = .returned (.tuple #[.agg e1.arr, .int .i64 f1]) ∧ Below W.heap.size W w')
    (HR : ∀ W, Below w.heap.size w W → Calls Try.prog 31 #[.agg m.arr, .agg #[.int .i64 t, .slice p.a p.n p.c]] W fun x w' => x = .returned (.tuple #[.agg m1.arr, .int .i64 g1]) ∧ Below W.heap.size W w')
    (HS : ∀ W, Below w.heap.size w W → Calls Try.prog 14 #[.agg e1.arr, .agg m1.arr] W fun x w' => x = .returned (.bool s) ∧ Below W.heap.size W w') :
    Calls Try.prog 9 #[.agg e.arr, .agg m.arr, .agg #[.int .u8 k, .int .i64 b, .int .i64 t, p.v]] w fun x w' => (∃ r, x = .returned (.tuple #[.agg e1.arr, .agg m1.arr, .bool r])) ∧ Below w.heap.size w w' := by
  have GC := hid HC
  have GR := hid HR
  have GS := hid HS
  clear HC HR HS
  have HX : Hid (Ob (((((w.alloc (.cells e.arr 30)).alloc (.cells m.arr 36)).alloc (.cells #[.int .u8 k, .int .i64 b, .int .i64 t, p.v] 35)).alloc zeroEc).alloc zeroE) (w.heap.size) 30 e) := hid (laid5_0 w (.cells e.arr 30) (.cells m.arr 36) (.cells #[.int .u8 k, .int .i64 b, .int .i64 t, p.v] 35) zeroEc zeroE)
  have HY : Hid (Ob (((((w.alloc (.cells e.arr 30)).alloc (.cells m.arr 36)).alloc (.cells #[.int .u8 k, .int .i64 b, .int .i64 t, p.v] 35)).alloc zeroEc).alloc zeroE) (w.heap.size + 1) 36 m) := hid (laid5_1 w (.cells e.arr 30) (.cells m.arr 36) (.cells #[.int .u8 k, .int .i64 b, .int .i64 t, p.v] 35) zeroEc zeroE)
  have HA : Hid ((((((w.alloc (.cells e.arr 30)).alloc (.cells m.arr 36)).alloc (.cells #[.int .u8 k, .int .i64 b, .int .i64 t, p.v] 35)).alloc zeroEc).alloc zeroE).heap[w.heap.size + 2]? = some ((.cells #[.int .u8 k, .int .i64 b, .int .i64 t, p.v] 35))) := hid (laid5_2 w (.cells e.arr 30) (.cells m.arr 36) (.cells #[.int .u8 k, .int .i64 b, .int .i64 t, p.v] 35) zeroEc zeroE)
  have HZ : Hid (Ob (((((w.alloc (.cells e.arr 30)).alloc (.cells m.arr 36)).alloc (.cells #[.int .u8 k, .int .i64 b, .int .i64 t, p.v] 35)).alloc zeroEc).alloc zeroE) (w.heap.size + 3) 30 zE) := hid (laid5_3 w (.cells e.arr 30) (.cells m.arr 36) (.cells #[.int .u8 k, .int .i64 b, .int .i64 t, p.v] 35) zeroEc zeroE)
  have HV : Hid (Ob (((((w.alloc (.cells e.arr 30)).alloc (.cells m.arr 36)).alloc (.cells #[.int .u8 k, .int .i64 b, .int .i64 t, p.v] 35)).alloc zeroEc).alloc zeroE) (w.heap.size + 4) 36 zE) := hid (laid5_4 w (.cells e.arr 30) (.cells m.arr 36) (.cells #[.int .u8 k, .int .i64 b, .int .i64 t, p.v] 35) zeroEc zeroE)
  have HW : Hid (Below w.heap.size w (((((w.alloc (.cells e.arr 30)).alloc (.cells m.arr 36)).alloc (.cells #[.int .u8 k, .int .i64 b, .int .i64 t, p.v] 35)).alloc zeroEc).alloc zeroE)) := hid (laid5_b w (.cells e.arr 30) (.cells m.arr 36) (.cells #[.int .u8 k, .int .i64 b, .int .i64 t, p.v] 35) zeroEc zeroE)
  have tok : Hid (0 = 0) := hid rfl
  go_enter Try.func9, Try.ntmps9
  go_wp2_with (first
    | (clear tok; (with_reducible refine opaqueW (((((w.alloc (.cells e.arr 30)).alloc (.cells m.arr 36)).alloc (.cells #[.int .u8 k, .int .i64 b, .int .i64 t, p.v] 35)).alloc zeroEc).alloc zeroE) ?_); intro W0 hW; rw [← hW] at HX HY HA HZ HV HW; clear hW; have kA0 : W0.cell? ⟨w.heap.size + 2, 0, none⟩ = some (.int .u8 k) := (cellAt' HA.out 0).trans rfl; have kA1 : W0.cell? ⟨w.heap.size + 2, 1, none⟩ = some (.int .i64 b) := (cellAt' HA.out 1).trans rfl; have kA2 : W0.cell? ⟨w.heap.size + 2, 2, none⟩ = some (.int .i64 t) := (cellAt' HA.out 2).trans rfl; have kA3 : W0.cell? ⟨w.heap.size + 2, 3, none⟩ = some (.slice p.a p.n p.c) := (cellAt' HA.out 3).trans rfl)
    | ((with_reducible refine loadC (x := ?lx89) (b := ?lb89) (T := 30) e ?lg89 ?lo89 ?lxx89 ?lc89 ?lh89); (case lg89 => rfl); (case lo89 => rfl); (case lxx89 => rfl); (case lc89 => exact HX.out)))
  go_at_call 23
  refine (GC.out _ HW.out).mono ?_
  rintro x w1 ⟨rfl, hB⟩
  have GX : Hid (Ob w1 (w.heap.size) 30 e) := hid (heapB (HX.out) hB (Array.getElem?_eq_some_iff.1 (HX.out)).1)
  have GY : Hid (Ob w1 (w.heap.size + 1) 36 m) := hid (heapB (HY.out) hB (Array.getElem?_eq_some_iff.1 (HY.out)).1)
  have GA : Hid (w1.heap[w.heap.size + 2]? = some ((.cells #[.int .u8 k, .int .i64 b, .int .i64 t, p.v] 35))) := hid (heapB (HA.out) hB (Array.getElem?_eq_some_iff.1 (HA.out)).1)
  have GZ : Hid (Ob w1 (w.heap.size + 3) 30 zE) := hid (heapB (HZ.out) hB (Array.getElem?_eq_some_iff.1 (HZ.out)).1)
  have GV : Hid (Ob w1 (w.heap.size + 4) 36 zE) := hid (heapB (HV.out) hB (Array.getElem?_eq_some_iff.1 (HV.out)).1)
  have GW := hid ((HW.out).trans (hB.mono (HW.out).size))
  clear kA0 kA1 kA2 kA3
  clear hB HX HY HA HZ HV HW
  have HX := GX; clear GX
  have HY := GY; clear GY
  have HA := GA; clear GA
  have HZ := GZ; clear GZ
  have HV := GV; clear GV
  have HW := GW; clear GW
  have kA0 : w1.cell? ⟨w.heap.size + 2, 0, none⟩ = some (.int .u8 k) := (cellAt' HA.out 0).trans rfl
  have kA1 : w1.cell? ⟨w.heap.size + 2, 1, none⟩ = some (.int .i64 b) := (cellAt' HA.out 1).trans rfl
  have kA2 : w1.cell? ⟨w.heap.size + 2, 2, none⟩ = some (.int .i64 t) := (cellAt' HA.out 2).trans rfl
  have kA3 : w1.cell? ⟨w.heap.size + 2, 3, none⟩ = some (.slice p.a p.n p.c) := (cellAt' HA.out 3).trans rfl
  go_wp2_with (first
    | ((with_reducible refine uponStore (e := e1) (Ob.room HX.out) ?_); intro w2 hO hU; have GX := hid hO; have GY : Hid (Ob w2 (w.heap.size + 1) 36 m) := hid (hU.ob (HY.out) (by omega)); have GA : Hid (w2.heap[w.heap.size + 2]? = some ((.cells #[.int .u8 k, .int .i64 b, .int .i64 t, p.v] 35))) := hid (hU.ob (HA.out) (by omega)); have GZ : Hid (Ob w2 (w.heap.size + 3) 30 zE) := hid (hU.ob (HZ.out) (by omega)); have GV : Hid (Ob w2 (w.heap.size + 4) 36 zE) := hid (hU.ob (HV.out) (by omega)); have GW := hid ((HW.out).trans (hU.below _ (by first | exact Nat.le_refl _ | omega))); clear hO hU; clear kA0 kA1 kA2 kA3; clear HX HY HA HZ HV HW; have HX := GX; clear GX; have HY := GY; clear GY; have HA := GA; clear GA; have HZ := GZ; clear GZ; have HV := GV; clear GV; have HW := GW; clear GW; have kA0 : w2.cell? ⟨w.heap.size + 2, 0, none⟩ = some (.int .u8 k) := (cellAt' HA.out 0).trans rfl; have kA1 : w2.cell? ⟨w.heap.size + 2, 1, none⟩ = some (.int .i64 b) := (cellAt' HA.out 1).trans rfl; have kA2 : w2.cell? ⟨w.heap.size + 2, 2, none⟩ = some (.int .i64 t) := (cellAt' HA.out 2).trans rfl; have kA3 : w2.cell? ⟨w.heap.size + 2, 3, none⟩ = some (.slice p.a p.n p.c) := (cellAt' HA.out 3).trans rfl)
    | ((with_reducible refine loadR (x := ?lx90) (b := ?lb90) (T := 36) m ?lg90 ?lo90 ?lxx90 ?lc90 ?lh90); (case lg90 => rfl); (case lo90 => rfl); (case lxx90 => rfl); (case lc90 => exact HY.out)))
  go_at_call 31
  refine (GR.out _ HW.out).mono ?_
  rintro x w3 ⟨rfl, hB⟩
  have GX : Hid (Ob w3 (w.heap.size) 30 e1) := hid (heapB (HX.out) hB (Array.getElem?_eq_some_iff.1 (HX.out)).1)
  have GY : Hid (Ob w3 (w.heap.size + 1) 36 m) := hid (heapB (HY.out) hB (Array.getElem?_eq_some_iff.1 (HY.out)).1)
  have GA : Hid (w3.heap[w.heap.size + 2]? = some ((.cells #[.int .u8 k, .int .i64 b, .int .i64 t, p.v] 35))) := hid (heapB (HA.out) hB (Array.getElem?_eq_some_iff.1 (HA.out)).1)
  have GZ : Hid (Ob w3 (w.heap.size + 3) 30 zE) := hid (heapB (HZ.out) hB (Array.getElem?_eq_some_iff.1 (HZ.out)).1)
  have GV : Hid (Ob w3 (w.heap.size + 4) 36 zE) := hid (heapB (HV.out) hB (Array.getElem?_eq_some_iff.1 (HV.out)).1)
  have GW := hid ((HW.out).trans (hB.mono (HW.out).size))
  clear kA0 kA1 kA2 kA3
  clear hB HX HY HA HZ HV HW
  have HX := GX; clear GX
  have HY := GY; clear GY
  have HA := GA; clear GA
  have HZ := GZ; clear GZ
  have HV := GV; clear GV
  have HW := GW; clear GW
  have kA0 : w3.cell? ⟨w.heap.size + 2, 0, none⟩ = some (.int .u8 k) := (cellAt' HA.out 0).trans rfl
  have kA1 : w3.cell? ⟨w.heap.size + 2, 1, none⟩ = some (.int .i64 b) := (cellAt' HA.out 1).trans rfl
  have kA2 : w3.cell? ⟨w.heap.size + 2, 2, none⟩ = some (.int .i64 t) := (cellAt' HA.out 2).trans rfl
  have kA3 : w3.cell? ⟨w.heap.size + 2, 3, none⟩ = some (.slice p.a p.n p.c) := (cellAt' HA.out 3).trans rfl
  go_wp2_with (first
    | ((with_reducible refine uponStore (e := m1) (Ob.room HY.out) ?_); intro w4 hO hU; have GY := hid hO; have GX : Hid (Ob w4 (w.heap.size) 30 e1) := hid (hU.ob (HX.out) (by omega)); have GA : Hid (w4.heap[w.heap.size + 2]? = some ((.cells #[.int .u8 k, .int .i64 b, .int .i64 t, p.v] 35))) := hid (hU.ob (HA.out) (by omega)); have GZ : Hid (Ob w4 (w.heap.size + 3) 30 zE) := hid (hU.ob (HZ.out) (by omega)); have GV : Hid (Ob w4 (w.heap.size + 4) 36 zE) := hid (hU.ob (HV.out) (by omega)); have GW := hid ((HW.out).trans (hU.below _ (by first | exact Nat.le_refl _ | omega))); clear hO hU; clear kA0 kA1 kA2 kA3; clear HX HY HA HZ HV HW; have HX := GX; clear GX; have HY := GY; clear GY; have HA := GA; clear GA; have HZ := GZ; clear GZ; have HV := GV; clear GV; have HW := GW; clear GW; have kA0 : w4.cell? ⟨w.heap.size + 2, 0, none⟩ = some (.int .u8 k) := (cellAt' HA.out 0).trans rfl; have kA1 : w4.cell? ⟨w.heap.size + 2, 1, none⟩ = some (.int .i64 b) := (cellAt' HA.out 1).trans rfl; have kA2 : w4.cell? ⟨w.heap.size + 2, 2, none⟩ = some (.int .i64 t) := (cellAt' HA.out 2).trans rfl; have kA3 : w4.cell? ⟨w.heap.size + 2, 3, none⟩ = some (.slice p.a p.n p.c) := (cellAt' HA.out 3).trans rfl)
    | ((with_reducible refine loadC (x := ?lx91) (b := ?lb91) (T := 30) e1 ?lg91 ?lo91 ?lxx91 ?lc91 ?lh91); (case lg91 => rfl); (case lo91 => rfl); (case lxx91 => rfl); (case lc91 => exact HX.out))
    | ((with_reducible refine loadR (x := ?lx92) (b := ?lb92) (T := 36) m1 ?lg92 ?lo92 ?lxx92 ?lc92 ?lh92); (case lg92 => rfl); (case lo92 => rfl); (case lxx92 => rfl); (case lc92 => exact HY.out)))
  go_at_call 14
  refine (GS.out _ HW.out).mono ?_
  rintro x w5 ⟨rfl, hB⟩
  have GX : Hid (Ob w5 (w.heap.size) 30 e1) := hid (heapB (HX.out) hB (Array.getElem?_eq_some_iff.1 (HX.out)).1)
  have GY : Hid (Ob w5 (w.heap.size + 1) 36 m1) := hid (heapB (HY.out) hB (Array.getElem?_eq_some_iff.1 (HY.out)).1)
  have GA : Hid (w5.heap[w.heap.size + 2]? = some ((.cells #[.int .u8 k, .int .i64 b, .int .i64 t, p.v] 35))) := hid (heapB (HA.out) hB (Array.getElem?_eq_some_iff.1 (HA.out)).1)
  have GZ : Hid (Ob w5 (w.heap.size + 3) 30 zE) := hid (heapB (HZ.out) hB (Array.getElem?_eq_some_iff.1 (HZ.out)).1)
  have GV : Hid (Ob w5 (w.heap.size + 4) 36 zE) := hid (heapB (HV.out) hB (Array.getElem?_eq_some_iff.1 (HV.out)).1)
  have GW := hid ((HW.out).trans (hB.mono (HW.out).size))
  clear kA0 kA1 kA2 kA3
  clear hB HX HY HA HZ HV HW
  have HX := GX; clear GX
  have HY := GY; clear GY
  have HA := GA; clear GA
  have HZ := GZ; clear GZ
  have HV := GV; clear GV
  have HW := GW; clear GW
  have kA0 : w5.cell? ⟨w.heap.size + 2, 0, none⟩ = some (.int .u8 k) := (cellAt' HA.out 0).trans rfl
  have kA1 : w5.cell? ⟨w.heap.size + 2, 1, none⟩ = some (.int .i64 b) := (cellAt' HA.out 1).trans rfl
  have kA2 : w5.cell? ⟨w.heap.size + 2, 2, none⟩ = some (.int .i64 t) := (cellAt' HA.out 2).trans rfl
  have kA3 : w5.cell? ⟨w.heap.size + 2, 3, none⟩ = some (.slice p.a p.n p.c) := (cellAt' HA.out 3).trans rfl
  go_wp2_with fail
  clear GC GR GS
  cases s with
  | false =>
    refine ra_start (n := 11) (listed := #[false, false, false, false, false, false, false, false, false, false, false]) (by kernel_rfl) rfl rfl ?_
    refine ra_take (i := 2) (o := ?o93) (v := ?v93) (listed' := ?l93) (a' := ?a93) ?hi93 (by kernel_rfl) (by kernel_rfl) (by kernel_rfl) ?hq93 ?hl93 ?hw93 ?hv93 ?ha93 ?hh93
    case hi93 => (simp only [List.getElem?_toArray, List.getElem?_cons_succ, List.getElem?_cons_zero]; try rfl)
    case hq93 => exact fun _ _ _ h => h
    case hl93 => (simp only [List.setIfInBounds_toArray, List.set_cons_succ, List.set_cons_zero]; try rfl)
    case hw93 => rfl
    case hv93 =>
      intro w
      go_simp
      try with_reducible rfl
    case ha93 => (simp only [Act.put, List.setIfInBounds_toArray, List.set_cons_succ, List.set_cons_zero]; try rfl)
    refine ra_take (i := 3) (o := ?o94) (v := ?v94) (listed' := ?l94) (a' := ?a94) ?hi94 (by kernel_rfl) (by kernel_rfl) (by kernel_rfl) ?hq94 ?hl94 ?hw94 ?hv94 ?ha94 ?hh94
    case hi94 => (simp only [List.getElem?_toArray, List.getElem?_cons_succ, List.getElem?_cons_zero]; try rfl)
    case hq94 => exact fun _ _ _ h => h
    case hl94 => (simp only [List.setIfInBounds_toArray, List.set_cons_succ, List.set_cons_zero]; try rfl)
    case hw94 => rfl
    case hv94 =>
      intro w
      go_simp
      try with_reducible rfl
    case ha94 => (simp only [Act.put, List.setIfInBounds_toArray, List.set_cons_succ, List.set_cons_zero]; try rfl)
    refine ra_skip (i := 4) (o := ?o95) (listed' := ?l95) (a' := ?a95) ?hi95 (by kernel_rfl) (by kernel_rfl) (by kernel_rfl) ?hq95 ?hl95 ?hw95 ?ha95 ?hh95
    case hi95 => (simp only [List.getElem?_toArray, List.getElem?_cons_succ, List.getElem?_cons_zero]; try rfl)
    case hq95 => exact fun _ _ _ h => h
    case hl95 => (simp only [List.setIfInBounds_toArray, List.set_cons_succ, List.set_cons_zero]; try rfl)
    case hw95 => rfl
    case ha95 => (simp only [Act.put, List.setIfInBounds_toArray, List.set_cons_succ, List.set_cons_zero]; try rfl)
    refine ra_skip (i := 5) (o := ?o96) (listed' := ?l96) (a' := ?a96) ?hi96 (by kernel_rfl) (by kernel_rfl) (by kernel_rfl) ?hq96 ?hl96 ?hw96 ?ha96 ?hh96
    case hi96 => (simp only [List.getElem?_toArray, List.getElem?_cons_succ, List.getElem?_cons_zero]; try rfl)
    case hq96 => exact fun _ _ _ h => h
    case hl96 => (simp only [List.setIfInBounds_toArray, List.set_cons_succ, List.set_cons_zero]; try rfl)
    case hw96 => rfl
    case ha96 => (simp only [Act.put, List.setIfInBounds_toArray, List.set_cons_succ, List.set_cons_zero]; try rfl)
    refine ra_skip (i := 6) (o := ?o97) (listed' := ?l97) (a' := ?a97) ?hi97 (by kernel_rfl) (by kernel_rfl) (by kernel_rfl) ?hq97 ?hl97 ?hw97 ?ha97 ?hh97
    case hi97 => (simp only [List.getElem?_toArray, List.getElem?_cons_succ, List.getElem?_cons_zero]; try rfl)
    case hq97 => exact fun _ _ _ h => h
    case hl97 => (simp only [List.setIfInBounds_toArray, List.set_cons_succ, List.set_cons_zero]; try rfl)
    case hw97 => rfl
    case ha97 => (simp only [Act.put, List.setIfInBounds_toArray, List.set_cons_succ, List.set_cons_zero]; try rfl)
    refine ra_take (i := 7) (o := ?o98) (v := ?v98) (listed' := ?l98) (a' := ?a98) ?hi98 (by kernel_rfl) (by kernel_rfl) (by kernel_rfl) ?hq98 ?hl98 ?hw98 ?hv98 ?ha98 ?hh98
    case hi98 => (simp only [List.getElem?_toArray, List.getElem?_cons_succ, List.getElem?_cons_zero]; try rfl)
    case hq98 => exact fun _ _ _ h => h
    case hl98 => (simp only [List.setIfInBounds_toArray, List.set_cons_succ, List.set_cons_zero]; try rfl)
    case hw98 => rfl
    case hv98 =>
      intro w
      go_simp
      try with_reducible rfl
    case ha98 => (simp only [Act.put, List.setIfInBounds_toArray, List.set_cons_succ, List.set_cons_zero]; try rfl)
    refine wpAny_ready (rs := [0, 1]) (by kernel_rfl) (by simp) ?_
    with_reducible refine ra_loadC (o := ?o99) (listed' := ?l99) (a' := ?a99) (x := ?x99) (b := ?b99) (T := 30) e1 ?hi99 ?hl99 ?hg99 ?ho99 ?hx99 ?hc99 ?ha99 ?hh99 ?hs99
    case hi99 => (simp only [List.getElem?_toArray, List.getElem?_cons_zero]; try rfl)
    case hl99 => (simp only [List.setIfInBounds_toArray, List.set_cons_zero]; try rfl)
    case hg99 => rfl
    case ho99 => rfl
    case hx99 => rfl
    case hc99 => exact (obDrew HX.out)
    case ha99 => (simp only [Act.put, List.setIfInBounds_toArray, List.set_cons_succ, List.set_cons_zero]; try rfl)
    case hs99 =>
      with_reducible refine ra_loadR (o := ?o100) (listed' := ?l100) (a' := ?a100) (x := ?x100) (b := ?b100) (T := 36) m1 ?hi100 ?hl100 ?hg100 ?ho100 ?hx100 ?hc100 ?ha100 ?hh100 ?hs100
      case hi100 => (simp only [List.getElem?_toArray, List.getElem?_cons_succ, List.getElem?_cons_zero]; try rfl)
      case hl100 => (simp only [List.setIfInBounds_toArray, List.set_cons_succ, List.set_cons_zero]; try rfl)
      case hg100 => rfl
      case ho100 => rfl
      case hx100 => rfl
      case hc100 => exact (obDrew HY.out)
      case ha100 => (simp only [Act.put, List.setIfInBounds_toArray, List.set_cons_succ, List.set_cons_zero]; try rfl)
      case hs100 =>
        exact AllReady.nil
      refine wpAny_ready (rs := [0]) (by kernel_rfl) (by simp) ?_
      with_reducible refine ra_loadC (o := ?o101) (listed' := ?l101) (a' := ?a101) (x := ?x101) (b := ?b101) (T := 30) e1 ?hi101 ?hl101 ?hg101 ?ho101 ?hx101 ?hc101 ?ha101 ?hh101 ?hs101
      case hi101 => (simp only [List.getElem?_toArray, List.getElem?_cons_zero]; try rfl)
      case hl101 => (simp only [List.setIfInBounds_toArray, List.set_cons_zero]; try rfl)
      case hg101 => rfl
      case ho101 => rfl
      case hx101 => rfl
      case hc101 => exact (obDrew HX.out)
      case ha101 => (simp only [Act.put, List.setIfInBounds_toArray, List.set_cons_succ, List.set_cons_zero]; try rfl)
      case hs101 =>
        exact AllReady.nil
      refine wpAny_ready (rs := [8]) (by kernel_rfl) (by simp) ?_
      with_reducible refine ra_storeC (o := ?o102) (listed' := ?l102) (x := ?x102) (y := ?y102) (b := ?b102) (T := 30) e1 ?hi102 ?hl102 ?hg102 ?ho102 ?hx102 ?hy102 ?hd102 ?hc102 ?hh102 ?hs102
      case hi102 => (simp only [List.getElem?_toArray, List.getElem?_cons_succ, List.getElem?_cons_zero]; try rfl)
      case hl102 => (simp only [List.setIfInBounds_toArray, List.set_cons_succ, List.set_cons_zero]; try rfl)
      case hg102 => rfl
      case ho102 => rfl
      case hx102 => rfl
      case hy102 => rfl
      case hd102 => rfl
      case hc102 => exact Ob.room (obDrew HZ.out)
      case hs102 =>
        exact AllReady.nil
      intro w7 hO hU
      have GZ := hid hO
      have GX : Hid (Ob w7 (w.heap.size) 30 e1) := hid (hU.ob ((obDrew HX.out)) (by omega))
      have GY : Hid (Ob w7 (w.heap.size + 1) 36 m1) := hid (hU.ob ((obDrew HY.out)) (by omega))
      have GA : Hid (w7.heap[w.heap.size + 2]? = some ((.cells #[.int .u8 k, .int .i64 b, .int .i64 t, p.v] 35))) := hid (hU.ob ((obDrew HA.out)) (by omega))
      have GV : Hid (Ob w7 (w.heap.size + 4) 36 zE) := hid (hU.ob ((obDrew HV.out)) (by omega))
      have GW := hid (((belowDrew HW.out)).trans (hU.below _ (by first | exact Nat.le_refl _ | omega)))
      clear hO hU
      clear kA0 kA1 kA2 kA3
      clear HX HY HA HZ HV HW
      have HX := GX
      clear GX
      have HY := GY
      clear GY
      have HA := GA
      clear GA
      have HZ := GZ
      clear GZ
      have HV := GV
      clear GV
      have HW := GW
      clear GW
      refine wpAny_ready (rs := [9]) (by kernel_rfl) (by simp) ?_
      with_reducible refine ra_storeR (o := ?o103) (listed' := ?l103) (x := ?x103) (y := ?y103) (b := ?b103) (T := 36) m1 ?hi103 ?hl103 ?hg103 ?ho103 ?hx103 ?hy103 ?hd103 ?hc103 ?hh103 ?hs103
      case hi103 => (simp only [List.getElem?_toArray, List.getElem?_cons_succ, List.getElem?_cons_zero]; try rfl)
      case hl103 => (simp only [List.setIfInBounds_toArray, List.set_cons_succ, List.set_cons_zero]; try rfl)
      case hg103 => rfl
      case ho103 => rfl
      case hx103 => rfl
      case hy103 => rfl
      case hd103 => rfl
      case hc103 => exact Ob.room HV.out
      case hs103 =>
        exact AllReady.nil
      intro w8 hO hU
      have GV := hid hO
      have GX : Hid (Ob w8 (w.heap.size) 30 e1) := hid (hU.ob (HX.out) (by omega))
      have GY : Hid (Ob w8 (w.heap.size + 1) 36 m1) := hid (hU.ob (HY.out) (by omega))
      have GA : Hid (w8.heap[w.heap.size + 2]? = some ((.cells #[.int .u8 k, .int .i64 b, .int .i64 t, p.v] 35))) := hid (hU.ob (HA.out) (by omega))
      have GZ : Hid (Ob w8 (w.heap.size + 3) 30 e1) := hid (hU.ob (HZ.out) (by omega))
      have GW := hid ((HW.out).trans (hU.below _ (by first | exact Nat.le_refl _ | omega)))
      clear hO hU
      clear HX HY HA HZ HV HW
      have HX := GX
      clear GX
      have HY := GY
      clear GY
      have HA := GA
      clear GA
      have HZ := GZ
      clear GZ
      have HV := GV
      clear GV
      have HW := GW
      clear GW
      refine wpAny_ready (rs := [10]) (by kernel_rfl) (by simp) ?_
      with_reducible refine ra_assign (o := ?o104) (listed' := ?l104) (a' := ?a104) (x := ?x104) (v := ?v104) ?hi104 ?hl104 ?hg104 ?ho104 ?hv104 ?ha104 ?hh104 ?hs104
      case hi104 => (simp only [List.getElem?_toArray, List.getElem?_cons_succ, List.getElem?_cons_zero]; try rfl)
      case hl104 => (simp only [List.setIfInBounds_toArray, List.set_cons_succ, List.set_cons_zero]; try rfl)
      case hg104 => rfl
      case ho104 => rfl
      case hv104 => rfl
      case ha104 => (simp only [Act.put, List.setIfInBounds_toArray, List.set_cons_succ, List.set_cons_zero]; try rfl)
      case hs104 =>
        exact AllReady.nil
      refine wpAny_done (by kernel_rfl) ?_ _
      go_wp2_with fail
      refine bodyPost_ret (ret_cell2_tmp rfl rfl rfl rfl (HZ.out).range Try.underlying30 rfl (infoEc e1) (HV.out).range Try.underlying36 rfl (infoE m1)) rfl ⟨⟨_, rfl⟩, HW.out⟩
    refine wpAny_ready (rs := [1, 8]) (by kernel_rfl) (by simp) ?_
    with_reducible refine ra_loadR (o := ?o105) (listed' := ?l105) (a' := ?a105) (x := ?x105) (b := ?b105) (T := 36) m1 ?hi105 ?hl105 ?hg105 ?ho105 ?hx105 ?hc105 ?ha105 ?hh105 ?hs105
    case hi105 => (simp only [List.getElem?_toArray, List.getElem?_cons_succ, List.getElem?_cons_zero]; try rfl)
    case hl105 => (simp only [List.setIfInBounds_toArray, List.set_cons_succ, List.set_cons_zero]; try rfl)
    case hg105 => rfl
    case ho105 => rfl
    case hx105 => rfl
    case hc105 => exact (obDrew HY.out)
    case ha105 => (simp only [Act.put, List.setIfInBounds_toArray, List.set_cons_succ, List.set_cons_zero]; try rfl)
    case hs105 =>
      with_reducible refine ra_storeC (o := ?o106) (listed' := ?l106) (x := ?x106) (y := ?y106) (b := ?b106) (T := 30) e1 ?hi106 ?hl106 ?hg106 ?ho106 ?hx106 ?hy106 ?hd106 ?hc106 ?hh106 ?hs106
      case hi106 => (simp only [List.getElem?_toArray, List.getElem?_cons_succ, List.getElem?_cons_zero]; try rfl)
      case hl106 => (simp only [List.setIfInBounds_toArray, List.set_cons_succ, List.set_cons_zero]; try rfl)
      case hg106 => rfl
      case ho106 => rfl
      case hx106 => rfl
      case hy106 => rfl
      case hd106 => rfl
      case hc106 => exact Ob.room (obDrew HZ.out)
      case hs106 =>
        exact AllReady.nil
      intro w9 hO hU
      have GZ := hid hO
      have GX : Hid (Ob w9 (w.heap.size) 30 e1) := hid (hU.ob ((obDrew HX.out)) (by omega))
      have GY : Hid (Ob w9 (w.heap.size + 1) 36 m1) := hid (hU.ob ((obDrew HY.out)) (by omega))
      have GA : Hid (w9.heap[w.heap.size + 2]? = some ((.cells #[.int .u8 k, .int .i64 b, .int .i64 t, p.v] 35))) := hid (hU.ob ((obDrew HA.out)) (by omega))
      have GV : Hid (Ob w9 (w.heap.size + 4) 36 zE) := hid (hU.ob ((obDrew HV.out)) (by omega))
      have GW := hid (((belowDrew HW.out)).trans (hU.below _ (by first | exact Nat.le_refl _ | omega)))
      clear hO hU
      clear kA0 kA1 kA2 kA3
      clear HX HY HA HZ HV HW
      have HX := GX
      clear GX
      have HY := GY
      clear GY
      have HA := GA
      clear GA
      have HZ := GZ
      clear GZ
      have HV := GV
      clear GV
      have HW := GW
      clear GW
      refine wpAny_ready (rs := [1]) (by kernel_rfl) (by simp) ?_
      with_reducible refine ra_loadR (o := ?o107) (listed' := ?l107) (a' := ?a107) (x := ?x107) (b := ?b107) (T := 36) m1 ?hi107 ?hl107 ?hg107 ?ho107 ?hx107 ?hc107 ?ha107 ?hh107 ?hs107
      case hi107 => (simp only [List.getElem?_toArray, List.getElem?_cons_succ, List.getElem?_cons_zero]; try rfl)
      case hl107 => (simp only [List.setIfInBounds_toArray, List.set_cons_succ, List.set_cons_zero]; try rfl)
      case hg107 => rfl
      case ho107 => rfl
      case hx107 => rfl
      case hc107 => exact HY.out
      case ha107 => (simp only [Act.put, List.setIfInBounds_toArray, List.set_cons_succ, List.set_cons_zero]; try rfl)
      case hs107 =>
        exact AllReady.nil
      refine wpAny_ready (rs := [9]) (by kernel_rfl) (by simp) ?_
      with_reducible refine ra_storeR (o := ?o108) (listed' := ?l108) (x := ?x108) (y := ?y108) (b := ?b108) (T := 36) m1 ?hi108 ?hl108 ?hg108 ?ho108 ?hx108 ?hy108 ?hd108 ?hc108 ?hh108 ?hs108
      case hi108 => (simp only [List.getElem?_toArray, List.getElem?_cons_succ, List.getElem?_cons_zero]; try rfl)
      case hl108 => (simp only [List.setIfInBounds_toArray, List.set_cons_succ, List.set_cons_zero]; try rfl)
      case hg108 => rfl
      case ho108 => rfl
      case hx108 => rfl
      case hy108 => rfl
      case hd108 => rfl
      case hc108 => exact Ob.room HV.out
      case hs108 =>
        exact AllReady.nil
      intro w10 hO hU
      have GV := hid hO
      have GX : Hid (Ob w10 (w.heap.size) 30 e1) := hid (hU.ob (HX.out) (by omega))
      have GY : Hid (Ob w10 (w.heap.size + 1) 36 m1) := hid (hU.ob (HY.out) (by omega))
      have GA : Hid (w10.heap[w.heap.size + 2]? = some ((.cells #[.int .u8 k, .int .i64 b, .int .i64 t, p.v] 35))) := hid (hU.ob (HA.out) (by omega))
      have GZ : Hid (Ob w10 (w.heap.size + 3) 30 e1) := hid (hU.ob (HZ.out) (by omega))
      have GW := hid ((HW.out).trans (hU.below _ (by first | exact Nat.le_refl _ | omega)))
      clear hO hU
      clear HX HY HA HZ HV HW
      have HX := GX
      clear GX
      have HY := GY
      clear GY
      have HA := GA
      clear GA
      have HZ := GZ
      clear GZ
      have HV := GV
      clear GV
      have HW := GW
      clear GW
      refine wpAny_ready (rs := [10]) (by kernel_rfl) (by simp) ?_
      with_reducible refine ra_assign (o := ?o109) (listed' := ?l109) (a' := ?a109) (x := ?x109) (v := ?v109) ?hi109 ?hl109 ?hg109 ?ho109 ?hv109 ?ha109 ?hh109 ?hs109
      case hi109 => (simp only [List.getElem?_toArray, List.getElem?_cons_succ, List.getElem?_cons_zero]; try rfl)
      case hl109 => (simp only [List.setIfInBounds_toArray, List.set_cons_succ, List.set_cons_zero]; try rfl)
      case hg109 => rfl
      case ho109 => rfl
      case hv109 => rfl
      case ha109 => (simp only [Act.put, List.setIfInBounds_toArray, List.set_cons_succ, List.set_cons_zero]; try rfl)
      case hs109 =>
        exact AllReady.nil
      refine wpAny_done (by kernel_rfl) ?_ _
      go_wp2_with fail
      refine bodyPost_ret (ret_cell2_tmp rfl rfl rfl rfl (HZ.out).range Try.underlying30 rfl (infoEc e1) (HV.out).range Try.underlying36 rfl (infoE m1)) rfl ⟨⟨_, rfl⟩, HW.out⟩
    refine wpAny_ready (rs := [8]) (by kernel_rfl) (by simp) ?_
    with_reducible refine ra_storeC (o := ?o110) (listed' := ?l110) (x := ?x110) (y := ?y110) (b := ?b110) (T := 30) e1 ?hi110 ?hl110 ?hg110 ?ho110 ?hx110 ?hy110 ?hd110 ?hc110 ?hh110 ?hs110
    case hi110 => (simp only [List.getElem?_toArray, List.getElem?_cons_succ, List.getElem?_cons_zero]; try rfl)
    case hl110 => (simp only [List.setIfInBounds_toArray, List.set_cons_succ, List.set_cons_zero]; try rfl)
    case hg110 => rfl
    case ho110 => rfl
    case hx110 => rfl
    case hy110 => rfl
    case hd110 => rfl
    case hc110 => exact Ob.room (obDrew HZ.out)
    case hs110 =>
      exact AllReady.nil
    intro w11 hO hU
    have GZ := hid hO
    have GX : Hid (Ob w11 (w.heap.size) 30 e1) := hid (hU.ob ((obDrew HX.out)) (by omega))
    have GY : Hid (Ob w11 (w.heap.size + 1) 36 m1) := hid (hU.ob ((obDrew HY.out)) (by omega))
    have GA : Hid (w11.heap[w.heap.size + 2]? = some ((.cells #[.int .u8 k, .int .i64 b, .int .i64 t, p.v] 35))) := hid (hU.ob ((obDrew HA.out)) (by omega))
    have GV : Hid (Ob w11 (w.heap.size + 4) 36 zE) := hid (hU.ob ((obDrew HV.out)) (by omega))
    have GW := hid (((belowDrew HW.out)).trans (hU.below _ (by first | exact Nat.le_refl _ | omega)))
    clear hO hU
    clear kA0 kA1 kA2 kA3
    clear HX HY HA HZ HV HW
    have HX := GX
    clear GX
    have HY := GY
    clear GY
    have HA := GA
    clear GA
    have HZ := GZ
    clear GZ
    have HV := GV
    clear GV
    have HW := GW
    clear GW
    refine wpAny_ready (rs := [9]) (by kernel_rfl) (by simp) ?_
    with_reducible refine ra_storeR (o := ?o111) (listed' := ?l111) (x := ?x111) (y := ?y111) (b := ?b111) (T := 36) m1 ?hi111 ?hl111 ?hg111 ?ho111 ?hx111 ?hy111 ?hd111 ?hc111 ?hh111 ?hs111
    case hi111 => (simp only [List.getElem?_toArray, List.getElem?_cons_succ, List.getElem?_cons_zero]; try rfl)
    case hl111 => (simp only [List.setIfInBounds_toArray, List.set_cons_succ, List.set_cons_zero]; try rfl)
    case hg111 => rfl
    case ho111 => rfl
    case hx111 => rfl
    case hy111 => rfl
    case hd111 => rfl
    case hc111 => exact Ob.room HV.out
    case hs111 =>
      exact AllReady.nil
    intro w12 hO hU
    have GV := hid hO
    have GX : Hid (Ob w12 (w.heap.size) 30 e1) := hid (hU.ob (HX.out) (by omega))
    have GY : Hid (Ob w12 (w.heap.size + 1) 36 m1) := hid (hU.ob (HY.out) (by omega))
    have GA : Hid (w12.heap[w.heap.size + 2]? = some ((.cells #[.int .u8 k, .int .i64 b, .int .i64 t, p.v] 35))) := hid (hU.ob (HA.out) (by omega))
    have GZ : Hid (Ob w12 (w.heap.size + 3) 30 e1) := hid (hU.ob (HZ.out) (by omega))
    have GW := hid ((HW.out).trans (hU.below _ (by first | exact Nat.le_refl _ | omega)))
    clear hO hU
    clear HX HY HA HZ HV HW
    have HX := GX
    clear GX
    have HY := GY
    clear GY
    have HA := GA
    clear GA
    have HZ := GZ
    clear GZ
    have HV := GV
    clear GV
    have HW := GW
    clear GW
    refine wpAny_ready (rs := [10]) (by kernel_rfl) (by simp) ?_
    with_reducible refine ra_assign (o := ?o112) (listed' := ?l112) (a' := ?a112) (x := ?x112) (v := ?v112) ?hi112 ?hl112 ?hg112 ?ho112 ?hv112 ?ha112 ?hh112 ?hs112
    case hi112 => (simp only [List.getElem?_toArray, List.getElem?_cons_succ, List.getElem?_cons_zero]; try rfl)
    case hl112 => (simp only [List.setIfInBounds_toArray, List.set_cons_succ, List.set_cons_zero]; try rfl)
    case hg112 => rfl
    case ho112 => rfl
    case hv112 => rfl
    case ha112 => (simp only [Act.put, List.setIfInBounds_toArray, List.set_cons_succ, List.set_cons_zero]; try rfl)
    case hs112 =>
      exact AllReady.nil
    refine wpAny_done (by kernel_rfl) ?_ _
    go_wp2_with fail
    refine bodyPost_ret (ret_cell2_tmp rfl rfl rfl rfl (HZ.out).range Try.underlying30 rfl (infoEc e1) (HV.out).range Try.underlying36 rfl (infoE m1)) rfl ⟨⟨_, rfl⟩, HW.out⟩
  | true =>
    refine ra_start (n := 11) (listed := #[false, false, false, false, false, false, false, false, false, false, false]) (by kernel_rfl) rfl rfl ?_
    refine ra_take (i := 2) (o := ?o113) (v := ?v113) (listed' := ?l113) (a' := ?a113) ?hi113 (by kernel_rfl) (by kernel_rfl) (by kernel_rfl) ?hq113 ?hl113 ?hw113 ?hv113 ?ha113 ?hh113
    case hi113 => (simp only [List.getElem?_toArray, List.getElem?_cons_succ, List.getElem?_cons_zero]; try rfl)
    case hq113 => exact fun _ _ _ h => h
    case hl113 => (simp only [List.setIfInBounds_toArray, List.set_cons_succ, List.set_cons_zero]; try rfl)
    case hw113 => rfl
    case hv113 =>
      intro w
      go_simp
      try with_reducible rfl
    case ha113 => (simp only [Act.put, List.setIfInBounds_toArray, List.set_cons_succ, List.set_cons_zero]; try rfl)
    refine ra_take (i := 3) (o := ?o114) (v := ?v114) (listed' := ?l114) (a' := ?a114) ?hi114 (by kernel_rfl) (by kernel_rfl) (by kernel_rfl) ?hq114 ?hl114 ?hw114 ?hv114 ?ha114 ?hh114
    case hi114 => (simp only [List.getElem?_toArray, List.getElem?_cons_succ, List.getElem?_cons_zero]; try rfl)
    case hq114 => exact fun _ _ _ h => h
    case hl114 => (simp only [List.setIfInBounds_toArray, List.set_cons_succ, List.set_cons_zero]; try rfl)
    case hw114 => rfl
    case hv114 =>
      intro w
      go_simp
      try with_reducible rfl
    case ha114 => (simp only [Act.put, List.setIfInBounds_toArray, List.set_cons_succ, List.set_cons_zero]; try rfl)
    refine ra_take (i := 4) (o := ?o115) (v := ?v115) (listed' := ?l115) (a' := ?a115) ?hi115 (by kernel_rfl) (by kernel_rfl) (by kernel_rfl) ?hq115 ?hl115 ?hw115 ?hv115 ?ha115 ?hh115
    case hi115 => (simp only [List.getElem?_toArray, List.getElem?_cons_succ, List.getElem?_cons_zero]; try rfl)
    case hq115 => exact fun _ _ _ h => h
    case hl115 => (simp only [List.setIfInBounds_toArray, List.set_cons_succ, List.set_cons_zero]; try rfl)
    case hw115 => rfl
    case hv115 =>
      intro w
      go_simp
      try with_reducible rfl
    case ha115 => (simp only [Act.put, List.setIfInBounds_toArray, List.set_cons_succ, List.set_cons_zero]; try rfl)
    refine ra_take (i := 5) (o := ?o116) (v := ?v116) (listed' := ?l116) (a' := ?a116) ?hi116 (by kernel_rfl) (by kernel_rfl) (by kernel_rfl) ?hq116 ?hl116 ?hw116 ?hv116 ?ha116 ?hh116
    case hi116 => (simp only [List.getElem?_toArray, List.getElem?_cons_succ, List.getElem?_cons_zero]; try rfl)
    case hq116 => exact fun _ _ _ h => h
    case hl116 => (simp only [List.setIfInBounds_toArray, List.set_cons_succ, List.set_cons_zero]; try rfl)
    case hw116 => rfl
    case hv116 =>
      intro w
      go_simp
      try with_reducible rfl
    case ha116 => (simp only [Act.put, List.setIfInBounds_toArray, List.set_cons_succ, List.set_cons_zero]; try rfl)
    refine ra_take (i := 6) (o := ?o117) (v := ?v117) (listed' := ?l117) (a' := ?a117) ?hi117 (by kernel_rfl) (by kernel_rfl) (by kernel_rfl) ?hq117 ?hl117 ?hw117 ?hv117 ?ha117 ?hh117
    case hi117 => (simp only [List.getElem?_toArray, List.getElem?_cons_succ, List.getElem?_cons_zero]; try rfl)
    case hq117 => exact fun _ _ _ h => h
    case hl117 => (simp only [List.setIfInBounds_toArray, List.set_cons_succ, List.set_cons_zero]; try rfl)
    case hw117 => rfl
    case hv117 =>
      intro w
      go_simp
      try with_reducible rfl
    case ha117 => (simp only [Act.put, List.setIfInBounds_toArray, List.set_cons_succ, List.set_cons_zero]; try rfl)
    refine ra_take (i := 7) (o := ?o118) (v := ?v118) (listed' := ?l118) (a' := ?a118) ?hi118 (by kernel_rfl) (by kernel_rfl) (by kernel_rfl) ?hq118 ?hl118 ?hw118 ?hv118 ?ha118 ?hh118
    case hi118 => (simp only [List.getElem?_toArray, List.getElem?_cons_succ, List.getElem?_cons_zero]; try rfl)
    case hq118 => exact fun _ _ _ h => h
    case hl118 => (simp only [List.setIfInBounds_toArray, List.set_cons_succ, List.set_cons_zero]; try rfl)
    case hw118 => rfl
    case hv118 =>
      intro w
      go_simp
      try with_reducible rfl
    case ha118 => (simp only [Act.put, List.setIfInBounds_toArray, List.set_cons_succ, List.set_cons_zero]; try rfl)
    refine wpAny_ready (rs := [0, 1]) (by kernel_rfl) (by simp) ?_
    with_reducible refine ra_loadC (o := ?o119) (listed' := ?l119) (a' := ?a119) (x := ?x119) (b := ?b119) (T := 30) e1 ?hi119 ?hl119 ?hg119 ?ho119 ?hx119 ?hc119 ?ha119 ?hh119 ?hs119
    case hi119 => (simp only [List.getElem?_toArray, List.getElem?_cons_zero]; try rfl)
    case hl119 => (simp only [List.setIfInBounds_toArray, List.set_cons_zero]; try rfl)
    case hg119 => rfl
    case ho119 => rfl
    case hx119 => rfl
    case hc119 => exact (obDrew HX.out)
    case ha119 => (simp only [Act.put, List.setIfInBounds_toArray, List.set_cons_succ, List.set_cons_zero]; try rfl)
    case hs119 =>
      with_reducible refine ra_loadR (o := ?o120) (listed' := ?l120) (a' := ?a120) (x := ?x120) (b := ?b120) (T := 36) m1 ?hi120 ?hl120 ?hg120 ?ho120 ?hx120 ?hc120 ?ha120 ?hh120 ?hs120
      case hi120 => (simp only [List.getElem?_toArray, List.getElem?_cons_succ, List.getElem?_cons_zero]; try rfl)
      case hl120 => (simp only [List.setIfInBounds_toArray, List.set_cons_succ, List.set_cons_zero]; try rfl)
      case hg120 => rfl
      case ho120 => rfl
      case hx120 => rfl
      case hc120 => exact (obDrew HY.out)
      case ha120 => (simp only [Act.put, List.setIfInBounds_toArray, List.set_cons_succ, List.set_cons_zero]; try rfl)
      case hs120 =>
        exact AllReady.nil
      refine wpAny_ready (rs := [0]) (by kernel_rfl) (by simp) ?_
      with_reducible refine ra_loadC (o := ?o121) (listed' := ?l121) (a' := ?a121) (x := ?x121) (b := ?b121) (T := 30) e1 ?hi121 ?hl121 ?hg121 ?ho121 ?hx121 ?hc121 ?ha121 ?hh121 ?hs121
      case hi121 => (simp only [List.getElem?_toArray, List.getElem?_cons_zero]; try rfl)
      case hl121 => (simp only [List.setIfInBounds_toArray, List.set_cons_zero]; try rfl)
      case hg121 => rfl
      case ho121 => rfl
      case hx121 => rfl
      case hc121 => exact (obDrew HX.out)
      case ha121 => (simp only [Act.put, List.setIfInBounds_toArray, List.set_cons_succ, List.set_cons_zero]; try rfl)
      case hs121 =>
        exact AllReady.nil
      refine wpAny_ready (rs := [8]) (by kernel_rfl) (by simp) ?_
      with_reducible refine ra_storeC (o := ?o122) (listed' := ?l122) (x := ?x122) (y := ?y122) (b := ?b122) (T := 30) e1 ?hi122 ?hl122 ?hg122 ?ho122 ?hx122 ?hy122 ?hd122 ?hc122 ?hh122 ?hs122
      case hi122 => (simp only [List.getElem?_toArray, List.getElem?_cons_succ, List.getElem?_cons_zero]; try rfl)
      case hl122 => (simp only [List.setIfInBounds_toArray, List.set_cons_succ, List.set_cons_zero]; try rfl)
      case hg122 => rfl
      case ho122 => rfl
      case hx122 => rfl
      case hy122 => rfl
      case hd122 => rfl
      case hc122 => exact Ob.room (obDrew HZ.out)
      case hs122 =>
        exact AllReady.nil
      intro w7 hO hU
      have GZ := hid hO
      have GX : Hid (Ob w7 (w.heap.size) 30 e1) := hid (hU.ob ((obDrew HX.out)) (by omega))
      have GY : Hid (Ob w7 (w.heap.size + 1) 36 m1) := hid (hU.ob ((obDrew HY.out)) (by omega))
      have GA : Hid (w7.heap[w.heap.size + 2]? = some ((.cells #[.int .u8 k, .int .i64 b, .int .i64 t, p.v] 35))) := hid (hU.ob ((obDrew HA.out)) (by omega))
      have GV : Hid (Ob w7 (w.heap.size + 4) 36 zE) := hid (hU.ob ((obDrew HV.out)) (by omega))
      have GW := hid (((belowDrew HW.out)).trans (hU.below _ (by first | exact Nat.le_refl _ | omega)))
      clear hO hU
      clear kA0 kA1 kA2 kA3
      clear HX HY HA HZ HV HW
      have HX := GX
      clear GX
      have HY := GY
      clear GY
      have HA := GA
      clear GA
      have HZ := GZ
      clear GZ
      have HV := GV
      clear GV
      have HW := GW
      clear GW
      refine wpAny_ready (rs := [9]) (by kernel_rfl) (by simp) ?_
      with_reducible refine ra_storeR (o := ?o123) (listed' := ?l123) (x := ?x123) (y := ?y123) (b := ?b123) (T := 36) m1 ?hi123 ?hl123 ?hg123 ?ho123 ?hx123 ?hy123 ?hd123 ?hc123 ?hh123 ?hs123
      case hi123 => (simp only [List.getElem?_toArray, List.getElem?_cons_succ, List.getElem?_cons_zero]; try rfl)
      case hl123 => (simp only [List.setIfInBounds_toArray, List.set_cons_succ, List.set_cons_zero]; try rfl)
      case hg123 => rfl
      case ho123 => rfl
      case hx123 => rfl
      case hy123 => rfl
      case hd123 => rfl
      case hc123 => exact Ob.room HV.out
      case hs123 =>
        exact AllReady.nil
      intro w8 hO hU
      have GV := hid hO
      have GX : Hid (Ob w8 (w.heap.size) 30 e1) := hid (hU.ob (HX.out) (by omega))
      have GY : Hid (Ob w8 (w.heap.size + 1) 36 m1) := hid (hU.ob (HY.out) (by omega))
      have GA : Hid (w8.heap[w.heap.size + 2]? = some ((.cells #[.int .u8 k, .int .i64 b, .int .i64 t, p.v] 35))) := hid (hU.ob (HA.out) (by omega))
      have GZ : Hid (Ob w8 (w.heap.size + 3) 30 e1) := hid (hU.ob (HZ.out) (by omega))
      have GW := hid ((HW.out).trans (hU.below _ (by first | exact Nat.le_refl _ | omega)))
      clear hO hU
      clear HX HY HA HZ HV HW
      have HX := GX
      clear GX
      have HY := GY
      clear GY
      have HA := GA
      clear GA
      have HZ := GZ
      clear GZ
      have HV := GV
      clear GV
      have HW := GW
      clear GW
      refine wpAny_ready (rs := [10]) (by kernel_rfl) (by simp) ?_
      with_reducible refine ra_assign (o := ?o124) (listed' := ?l124) (a' := ?a124) (x := ?x124) (v := ?v124) ?hi124 ?hl124 ?hg124 ?ho124 ?hv124 ?ha124 ?hh124 ?hs124
      case hi124 => (simp only [List.getElem?_toArray, List.getElem?_cons_succ, List.getElem?_cons_zero]; try rfl)
      case hl124 => (simp only [List.setIfInBounds_toArray, List.set_cons_succ, List.set_cons_zero]; try rfl)
      case hg124 => rfl
      case ho124 => rfl
      case hv124 => rfl
      case ha124 => (simp only [Act.put, List.setIfInBounds_toArray, List.set_cons_succ, List.set_cons_zero]; try rfl)
      case hs124 =>
        exact AllReady.nil
      refine wpAny_done (by kernel_rfl) ?_ _
      go_wp2_with fail
      refine bodyPost_ret (ret_cell2_tmp rfl rfl rfl rfl (HZ.out).range Try.underlying30 rfl (infoEc e1) (HV.out).range Try.underlying36 rfl (infoE m1)) rfl ⟨⟨_, rfl⟩, HW.out⟩
    refine wpAny_ready (rs := [1, 8]) (by kernel_rfl) (by simp) ?_
    with_reducible refine ra_loadR (o := ?o125) (listed' := ?l125) (a' := ?a125) (x := ?x125) (b := ?b125) (T := 36) m1 ?hi125 ?hl125 ?hg125 ?ho125 ?hx125 ?hc125 ?ha125 ?hh125 ?hs125
    case hi125 => (simp only [List.getElem?_toArray, List.getElem?_cons_succ, List.getElem?_cons_zero]; try rfl)
    case hl125 => (simp only [List.setIfInBounds_toArray, List.set_cons_succ, List.set_cons_zero]; try rfl)
    case hg125 => rfl
    case ho125 => rfl
    case hx125 => rfl
    case hc125 => exact (obDrew HY.out)
    case ha125 => (simp only [Act.put, List.setIfInBounds_toArray, List.set_cons_succ, List.set_cons_zero]; try rfl)
    case hs125 =>
      with_reducible refine ra_storeC (o := ?o126) (listed' := ?l126) (x := ?x126) (y := ?y126) (b := ?b126) (T := 30) e1 ?hi126 ?hl126 ?hg126 ?ho126 ?hx126 ?hy126 ?hd126 ?hc126 ?hh126 ?hs126
      case hi126 => (simp only [List.getElem?_toArray, List.getElem?_cons_succ, List.getElem?_cons_zero]; try rfl)
      case hl126 => (simp only [List.setIfInBounds_toArray, List.set_cons_succ, List.set_cons_zero]; try rfl)
      case hg126 => rfl
      case ho126 => rfl
      case hx126 => rfl
      case hy126 => rfl
      case hd126 => rfl
      case hc126 => exact Ob.room (obDrew HZ.out)
      case hs126 =>
        exact AllReady.nil
      intro w9 hO hU
      have GZ := hid hO
      have GX : Hid (Ob w9 (w.heap.size) 30 e1) := hid (hU.ob ((obDrew HX.out)) (by omega))
      have GY : Hid (Ob w9 (w.heap.size + 1) 36 m1) := hid (hU.ob ((obDrew HY.out)) (by omega))
      have GA : Hid (w9.heap[w.heap.size + 2]? = some ((.cells #[.int .u8 k, .int .i64 b, .int .i64 t, p.v] 35))) := hid (hU.ob ((obDrew HA.out)) (by omega))
      have GV : Hid (Ob w9 (w.heap.size + 4) 36 zE) := hid (hU.ob ((obDrew HV.out)) (by omega))
      have GW := hid (((belowDrew HW.out)).trans (hU.below _ (by first | exact Nat.le_refl _ | omega)))
      clear hO hU
      clear kA0 kA1 kA2 kA3
      clear HX HY HA HZ HV HW
      have HX := GX
      clear GX
      have HY := GY
      clear GY
      have HA := GA
      clear GA
      have HZ := GZ
      clear GZ
      have HV := GV
      clear GV
      have HW := GW
      clear GW
      refine wpAny_ready (rs := [1]) (by kernel_rfl) (by simp) ?_
      with_reducible refine ra_loadR (o := ?o127) (listed' := ?l127) (a' := ?a127) (x := ?x127) (b := ?b127) (T := 36) m1 ?hi127 ?hl127 ?hg127 ?ho127 ?hx127 ?hc127 ?ha127 ?hh127 ?hs127
      case hi127 => (simp only [List.getElem?_toArray, List.getElem?_cons_succ, List.getElem?_cons_zero]; try rfl)
      case hl127 => (simp only [List.setIfInBounds_toArray, List.set_cons_succ, List.set_cons_zero]; try rfl)
      case hg127 => rfl
      case ho127 => rfl
      case hx127 => rfl
      case hc127 => exact HY.out
      case ha127 => (simp only [Act.put, List.setIfInBounds_toArray, List.set_cons_succ, List.set_cons_zero]; try rfl)
      case hs127 =>
        exact AllReady.nil
      refine wpAny_ready (rs := [9]) (by kernel_rfl) (by simp) ?_
      with_reducible refine ra_storeR (o := ?o128) (listed' := ?l128) (x := ?x128) (y := ?y128) (b := ?b128) (T := 36) m1 ?hi128 ?hl128 ?hg128 ?ho128 ?hx128 ?hy128 ?hd128 ?hc128 ?hh128 ?hs128
      case hi128 => (simp only [List.getElem?_toArray, List.getElem?_cons_succ, List.getElem?_cons_zero]; try rfl)
      case hl128 => (simp only [List.setIfInBounds_toArray, List.set_cons_succ, List.set_cons_zero]; try rfl)
      case hg128 => rfl
      case ho128 => rfl
      case hx128 => rfl
      case hy128 => rfl
      case hd128 => rfl
      case hc128 => exact Ob.room HV.out
      case hs128 =>
        exact AllReady.nil
      intro w10 hO hU
      have GV := hid hO
      have GX : Hid (Ob w10 (w.heap.size) 30 e1) := hid (hU.ob (HX.out) (by omega))
      have GY : Hid (Ob w10 (w.heap.size + 1) 36 m1) := hid (hU.ob (HY.out) (by omega))
      have GA : Hid (w10.heap[w.heap.size + 2]? = some ((.cells #[.int .u8 k, .int .i64 b, .int .i64 t, p.v] 35))) := hid (hU.ob (HA.out) (by omega))
      have GZ : Hid (Ob w10 (w.heap.size + 3) 30 e1) := hid (hU.ob (HZ.out) (by omega))
      have GW := hid ((HW.out).trans (hU.below _ (by first | exact Nat.le_refl _ | omega)))
      clear hO hU
      clear HX HY HA HZ HV HW
      have HX := GX
      clear GX
      have HY := GY
      clear GY
      have HA := GA
      clear GA
      have HZ := GZ
      clear GZ
      have HV := GV
      clear GV
      have HW := GW
      clear GW
      refine wpAny_ready (rs := [10]) (by kernel_rfl) (by simp) ?_
      with_reducible refine ra_assign (o := ?o129) (listed' := ?l129) (a' := ?a129) (x := ?x129) (v := ?v129) ?hi129 ?hl129 ?hg129 ?ho129 ?hv129 ?ha129 ?hh129 ?hs129
      case hi129 => (simp only [List.getElem?_toArray, List.getElem?_cons_succ, List.getElem?_cons_zero]; try rfl)
      case hl129 => (simp only [List.setIfInBounds_toArray, List.set_cons_succ, List.set_cons_zero]; try rfl)
      case hg129 => rfl
      case ho129 => rfl
      case hv129 => rfl
      case ha129 => (simp only [Act.put, List.setIfInBounds_toArray, List.set_cons_succ, List.set_cons_zero]; try rfl)
      case hs129 =>
        exact AllReady.nil
      refine wpAny_done (by kernel_rfl) ?_ _
      go_wp2_with fail
      refine bodyPost_ret (ret_cell2_tmp rfl rfl rfl rfl (HZ.out).range Try.underlying30 rfl (infoEc e1) (HV.out).range Try.underlying36 rfl (infoE m1)) rfl ⟨⟨_, rfl⟩, HW.out⟩
    refine wpAny_ready (rs := [8]) (by kernel_rfl) (by simp) ?_
    with_reducible refine ra_storeC (o := ?o130) (listed' := ?l130) (x := ?x130) (y := ?y130) (b := ?b130) (T := 30) e1 ?hi130 ?hl130 ?hg130 ?ho130 ?hx130 ?hy130 ?hd130 ?hc130 ?hh130 ?hs130
    case hi130 => (simp only [List.getElem?_toArray, List.getElem?_cons_succ, List.getElem?_cons_zero]; try rfl)
    case hl130 => (simp only [List.setIfInBounds_toArray, List.set_cons_succ, List.set_cons_zero]; try rfl)
    case hg130 => rfl
    case ho130 => rfl
    case hx130 => rfl
    case hy130 => rfl
    case hd130 => rfl
    case hc130 => exact Ob.room (obDrew HZ.out)
    case hs130 =>
      exact AllReady.nil
    intro w11 hO hU
    have GZ := hid hO
    have GX : Hid (Ob w11 (w.heap.size) 30 e1) := hid (hU.ob ((obDrew HX.out)) (by omega))
    have GY : Hid (Ob w11 (w.heap.size + 1) 36 m1) := hid (hU.ob ((obDrew HY.out)) (by omega))
    have GA : Hid (w11.heap[w.heap.size + 2]? = some ((.cells #[.int .u8 k, .int .i64 b, .int .i64 t, p.v] 35))) := hid (hU.ob ((obDrew HA.out)) (by omega))
    have GV : Hid (Ob w11 (w.heap.size + 4) 36 zE) := hid (hU.ob ((obDrew HV.out)) (by omega))
    have GW := hid (((belowDrew HW.out)).trans (hU.below _ (by first | exact Nat.le_refl _ | omega)))
    clear hO hU
    clear kA0 kA1 kA2 kA3
    clear HX HY HA HZ HV HW
    have HX := GX
    clear GX
    have HY := GY
    clear GY
    have HA := GA
    clear GA
    have HZ := GZ
    clear GZ
    have HV := GV
    clear GV
    have HW := GW
    clear GW
    refine wpAny_ready (rs := [9]) (by kernel_rfl) (by simp) ?_
    with_reducible refine ra_storeR (o := ?o131) (listed' := ?l131) (x := ?x131) (y := ?y131) (b := ?b131) (T := 36) m1 ?hi131 ?hl131 ?hg131 ?ho131 ?hx131 ?hy131 ?hd131 ?hc131 ?hh131 ?hs131
    case hi131 => (simp only [List.getElem?_toArray, List.getElem?_cons_succ, List.getElem?_cons_zero]; try rfl)
    case hl131 => (simp only [List.setIfInBounds_toArray, List.set_cons_succ, List.set_cons_zero]; try rfl)
    case hg131 => rfl
    case ho131 => rfl
    case hx131 => rfl
    case hy131 => rfl
    case hd131 => rfl
    case hc131 => exact Ob.room HV.out
    case hs131 =>
      exact AllReady.nil
    intro w12 hO hU
    have GV := hid hO
    have GX : Hid (Ob w12 (w.heap.size) 30 e1) := hid (hU.ob (HX.out) (by omega))
    have GY : Hid (Ob w12 (w.heap.size + 1) 36 m1) := hid (hU.ob (HY.out) (by omega))
    have GA : Hid (w12.heap[w.heap.size + 2]? = some ((.cells #[.int .u8 k, .int .i64 b, .int .i64 t, p.v] 35))) := hid (hU.ob (HA.out) (by omega))
    have GZ : Hid (Ob w12 (w.heap.size + 3) 30 e1) := hid (hU.ob (HZ.out) (by omega))
    have GW := hid ((HW.out).trans (hU.below _ (by first | exact Nat.le_refl _ | omega)))
    clear hO hU
    clear HX HY HA HZ HV HW
    have HX := GX
    clear GX
    have HY := GY
    clear GY
    have HA := GA
    clear GA
    have HZ := GZ
    clear GZ
    have HV := GV
    clear GV
    have HW := GW
    clear GW
    refine wpAny_ready (rs := [10]) (by kernel_rfl) (by simp) ?_
    with_reducible refine ra_assign (o := ?o132) (listed' := ?l132) (a' := ?a132) (x := ?x132) (v := ?v132) ?hi132 ?hl132 ?hg132 ?ho132 ?hv132 ?ha132 ?hh132 ?hs132
    case hi132 => (simp only [List.getElem?_toArray, List.getElem?_cons_succ, List.getElem?_cons_zero]; try rfl)
    case hl132 => (simp only [List.setIfInBounds_toArray, List.set_cons_succ, List.set_cons_zero]; try rfl)
    case hg132 => rfl
    case ho132 => rfl
    case hv132 => rfl
    case ha132 => (simp only [Act.put, List.setIfInBounds_toArray, List.set_cons_succ, List.set_cons_zero]; try rfl)
    case hs132 =>
      exact AllReady.nil
    refine wpAny_done (by kernel_rfl) ?_ _
    go_wp2_with fail
    refine bodyPost_ret (ret_cell2_tmp rfl rfl rfl rfl (HZ.out).range Try.underlying30 rfl (infoEc e1) (HV.out).range Try.underlying36 rfl (infoE m1)) rfl ⟨⟨_, rfl⟩, HW.out⟩
end Go.Proofs.Ytmndjdaiailgmaa
