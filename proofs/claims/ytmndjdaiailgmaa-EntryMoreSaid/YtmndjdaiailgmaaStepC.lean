/- Entries by value: the law's step. -/
import Derived.Test.YtmndjdaiailgmaaAny
namespace Go.Proofs.Ytmndjdaiailgmaa
set_option linter.unusedVariables false
open Go.RowKit
open Go.Lib (hid)

set_option maxHeartbeats 8000000 in
set_option maxRecDepth 100000 in
theorem step_4 {e m e1 : Ev} {s : Bool} {k b t : Int} {p : Sv} {w : World} (hk : k.tmod 6 = 4)
    (HC : ∀ W, Below w.heap.size w W → Calls Try.prog 33 #[.agg e.arr] W fun x w' => x = .returned (.agg e1.arr) ∧ Below W.heap.size W w')
    (HS : ∀ W, Below w.heap.size w W → Calls Try.prog 14 #[.agg e1.arr, .agg ({ m with fr := true } : Ev).arr] W fun x w' => x = .returned (.bool s) ∧ Below W.heap.size W w') :
    Calls Try.prog 9 #[.agg e.arr, .agg m.arr, .agg #[.int .u8 k, .int .i64 b, .int .i64 t, p.v]] w fun x w' => (∃ r, x = .returned (.tuple #[.agg e1.arr, .agg ({ m with fr := true } : Ev).arr, .bool r])) ∧ Below w.heap.size w w' := by
  have GC := hid HC
  have GS := hid HS
  clear HC HS
  have HX : Hid (Ob (((((w.alloc (.cells e.arr 30)).alloc (.cells m.arr 36)).alloc (.cells #[.int .u8 k, .int .i64 b, .int .i64 t, p.v] 35)).alloc zeroEc).alloc zeroE) (w.heap.size) 30 e) := hid (laid5_0 w (.cells e.arr 30) (.cells m.arr 36) (.cells #[.int .u8 k, .int .i64 b, .int .i64 t, p.v] 35) zeroEc zeroE)
  have HY : Hid (Ob (((((w.alloc (.cells e.arr 30)).alloc (.cells m.arr 36)).alloc (.cells #[.int .u8 k, .int .i64 b, .int .i64 t, p.v] 35)).alloc zeroEc).alloc zeroE) (w.heap.size + 1) 36 m) := hid (laid5_1 w (.cells e.arr 30) (.cells m.arr 36) (.cells #[.int .u8 k, .int .i64 b, .int .i64 t, p.v] 35) zeroEc zeroE)
  have HA : Hid ((((((w.alloc (.cells e.arr 30)).alloc (.cells m.arr 36)).alloc (.cells #[.int .u8 k, .int .i64 b, .int .i64 t, p.v] 35)).alloc zeroEc).alloc zeroE).heap[w.heap.size + 2]? = some ((.cells #[.int .u8 k, .int .i64 b, .int .i64 t, p.v] 35))) := hid (laid5_2 w (.cells e.arr 30) (.cells m.arr 36) (.cells #[.int .u8 k, .int .i64 b, .int .i64 t, p.v] 35) zeroEc zeroE)
  have HZ : Hid (Ob (((((w.alloc (.cells e.arr 30)).alloc (.cells m.arr 36)).alloc (.cells #[.int .u8 k, .int .i64 b, .int .i64 t, p.v] 35)).alloc zeroEc).alloc zeroE) (w.heap.size + 3) 30 zE) := hid (laid5_3 w (.cells e.arr 30) (.cells m.arr 36) (.cells #[.int .u8 k, .int .i64 b, .int .i64 t, p.v] 35) zeroEc zeroE)
  have HV : Hid (Ob (((((w.alloc (.cells e.arr 30)).alloc (.cells m.arr 36)).alloc (.cells #[.int .u8 k, .int .i64 b, .int .i64 t, p.v] 35)).alloc zeroEc).alloc zeroE) (w.heap.size + 4) 36 zE) := hid (laid5_4 w (.cells e.arr 30) (.cells m.arr 36) (.cells #[.int .u8 k, .int .i64 b, .int .i64 t, p.v] 35) zeroEc zeroE)
  have HW : Hid (Below w.heap.size w (((((w.alloc (.cells e.arr 30)).alloc (.cells m.arr 36)).alloc (.cells #[.int .u8 k, .int .i64 b, .int .i64 t, p.v] 35)).alloc zeroEc).alloc zeroE)) := hid (laid5_b w (.cells e.arr 30) (.cells m.arr 36) (.cells #[.int .u8 k, .int .i64 b, .int .i64 t, p.v] 35) zeroEc zeroE)
  have tok : Hid (0 = 0) := hid rfl
  go_enter Try.func9, Try.ntmps9
  go_wp2_with (first
    | (clear tok; (with_reducible refine opaqueW (((((w.alloc (.cells e.arr 30)).alloc (.cells m.arr 36)).alloc (.cells #[.int .u8 k, .int .i64 b, .int .i64 t, p.v] 35)).alloc zeroEc).alloc zeroE) ?_); intro W0 hW; rw [← hW] at HX HY HA HZ HV HW; clear hW; have kA0 : W0.cell? ⟨w.heap.size + 2, 0, none⟩ = some (.int .u8 k) := (cellAt' HA.out 0).trans rfl; have kA1 : W0.cell? ⟨w.heap.size + 2, 1, none⟩ = some (.int .i64 b) := (cellAt' HA.out 1).trans rfl; have kA2 : W0.cell? ⟨w.heap.size + 2, 2, none⟩ = some (.int .i64 t) := (cellAt' HA.out 2).trans rfl; have kA3 : W0.cell? ⟨w.heap.size + 2, 3, none⟩ = some (.slice p.a p.n p.c) := (cellAt' HA.out 3).trans rfl)
    | ((with_reducible refine loadC (x := ?lx1) (b := ?lb1) (T := 30) e ?lg1 ?lo1 ?lxx1 ?lc1 ?lh1); (case lg1 => rfl); (case lo1 => rfl); (case lxx1 => rfl); (case lc1 => exact HX.out)))
  go_at_call 33
  refine (GC.out _ HW.out).mono ?_
  rintro x w1 ⟨rfl, hB⟩
  have GX : Hid (Ob w1 (w.heap.size) 30 e) := hid (heapB (HX.out) hB (Array.getElem?_eq_some_iff.1 (HX.out)).1)
  have GY : Hid (Ob w1 (w.heap.size + 1) 36 m) := hid (heapB (HY.out) hB (Array.getElem?_eq_some_iff.1 (HY.out)).1)
  have GA : Hid (w1.heap[w.heap.size + 2]? = some ((.cells #[.int .u8 k, .int .i64 b, .int .i64 t, p.v] 35))) := hid (heapB (HA.out) hB (Array.getElem?_eq_some_iff.1 (HA.out)).1)
  have GZ : Hid (Ob w1 (w.heap.size + 3) 30 zE) := hid (heapB (HZ.out) hB (Array.getElem?_eq_some_iff.1 (HZ.out)).1)
  have GV : Hid (Ob w1 (w.heap.size + 4) 36 zE) := hid (heapB (HV.out) hB (Array.getElem?_eq_some_iff.1 (HV.out)).1)
  have GW := hid ((HW.out).trans (hB.mono (HW.out).size))
  clear kA0 kA1 kA2 kA3
  clear hB HX HY HA HZ HV HW
  have HX := GX; clear GX
  have HY := GY; clear GY
  have HA := GA; clear GA
  have HZ := GZ; clear GZ
  have HV := GV; clear GV
  have HW := GW; clear GW
  have kA0 : w1.cell? ⟨w.heap.size + 2, 0, none⟩ = some (.int .u8 k) := (cellAt' HA.out 0).trans rfl
  have kA1 : w1.cell? ⟨w.heap.size + 2, 1, none⟩ = some (.int .i64 b) := (cellAt' HA.out 1).trans rfl
  have kA2 : w1.cell? ⟨w.heap.size + 2, 2, none⟩ = some (.int .i64 t) := (cellAt' HA.out 2).trans rfl
  have kA3 : w1.cell? ⟨w.heap.size + 2, 3, none⟩ = some (.slice p.a p.n p.c) := (cellAt' HA.out 3).trans rfl
  go_wp2_with (first
    | ((with_reducible refine uponStore (e := e1) (Ob.room HX.out) ?_); intro w2 hO hU; have GX := hid hO; have GY : Hid (Ob w2 (w.heap.size + 1) 36 m) := hid (hU.ob (HY.out) (by omega)); have GA : Hid (w2.heap[w.heap.size + 2]? = some ((.cells #[.int .u8 k, .int .i64 b, .int .i64 t, p.v] 35))) := hid (hU.ob (HA.out) (by omega)); have GZ : Hid (Ob w2 (w.heap.size + 3) 30 zE) := hid (hU.ob (HZ.out) (by omega)); have GV : Hid (Ob w2 (w.heap.size + 4) 36 zE) := hid (hU.ob (HV.out) (by omega)); have GW := hid ((HW.out).trans (hU.below _ (by first | exact Nat.le_refl _ | omega))); clear hO hU; clear kA0 kA1 kA2 kA3; clear HX HY HA HZ HV HW; have HX := GX; clear GX; have HY := GY; clear GY; have HA := GA; clear GA; have HZ := GZ; clear GZ; have HV := GV; clear GV; have HW := GW; clear GW; have kY15 : w2.cell? ⟨w.heap.size + 1, 15, none⟩ = some (.bool m.fr) := (HY.out).cell (j := 15) rfl; have zY15 : w2.frozen? ⟨w.heap.size + 1, 15, none⟩ = false := (HY.out).free 15)
    | ((with_reducible refine loadC (x := ?lx2) (b := ?lb2) (T := 30) e1 ?lg2 ?lo2 ?lxx2 ?lc2 ?lh2); (case lg2 => rfl); (case lo2 => rfl); (case lxx2 => rfl); (case lc2 => exact (setOther (q := w.heap.size + 1) (j := 15) (v := .bool true) (HX.out) (by omega))))
    | ((with_reducible refine loadR (x := ?lx3) (b := ?lb3) (T := 36) ({ m with fr := true } : Ev) ?lg3 ?lo3 ?lxx3 ?lc3 ?lh3); (case lg3 => rfl); (case lo3 => rfl); (case lxx3 => rfl); (case lc3 => exact ((HY.out).set (j := 15) (v := .bool true) (e' := ({ m with fr := true } : Ev)) rfl))))
  go_at_call 14
  refine (GS.out _ ((HW.out).setCell (p := ⟨w.heap.size + 1, 15, none⟩) (by first | exact Nat.le_refl _ | (show w.heap.size ≤ w.heap.size + 1; omega)) (.bool true))).mono ?_
  rintro x w5 ⟨rfl, hB⟩
  have GX : Hid (Ob w5 (w.heap.size) 30 e1) := hid (heapB ((setOther (q := w.heap.size + 1) (j := 15) (v := .bool true) (HX.out) (by omega))) hB (Array.getElem?_eq_some_iff.1 ((setOther (q := w.heap.size + 1) (j := 15) (v := .bool true) (HX.out) (by omega)))).1)
  have GY : Hid (Ob w5 (w.heap.size + 1) 36 ({ m with fr := true } : Ev)) := hid (heapB (((HY.out).set (j := 15) (v := .bool true) (e' := ({ m with fr := true } : Ev)) rfl)) hB (Array.getElem?_eq_some_iff.1 (((HY.out).set (j := 15) (v := .bool true) (e' := ({ m with fr := true } : Ev)) rfl))).1)
  have GA : Hid (w5.heap[w.heap.size + 2]? = some ((.cells #[.int .u8 k, .int .i64 b, .int .i64 t, p.v] 35))) := hid (heapB ((setOther (q := w.heap.size + 1) (j := 15) (v := .bool true) (HA.out) (by omega))) hB (Array.getElem?_eq_some_iff.1 ((setOther (q := w.heap.size + 1) (j := 15) (v := .bool true) (HA.out) (by omega)))).1)
  have GZ : Hid (Ob w5 (w.heap.size + 3) 30 zE) := hid (heapB ((setOther (q := w.heap.size + 1) (j := 15) (v := .bool true) (HZ.out) (by omega))) hB (Array.getElem?_eq_some_iff.1 ((setOther (q := w.heap.size + 1) (j := 15) (v := .bool true) (HZ.out) (by omega)))).1)
  have GV : Hid (Ob w5 (w.heap.size + 4) 36 zE) := hid (heapB ((setOther (q := w.heap.size + 1) (j := 15) (v := .bool true) (HV.out) (by omega))) hB (Array.getElem?_eq_some_iff.1 ((setOther (q := w.heap.size + 1) (j := 15) (v := .bool true) (HV.out) (by omega)))).1)
  have GW := hid ((((HW.out).setCell (p := ⟨w.heap.size + 1, 15, none⟩) (by first | exact Nat.le_refl _ | (show w.heap.size ≤ w.heap.size + 1; omega)) (.bool true))).trans (hB.mono (((HW.out).setCell (p := ⟨w.heap.size + 1, 15, none⟩) (by first | exact Nat.le_refl _ | (show w.heap.size ≤ w.heap.size + 1; omega)) (.bool true))).size))
  clear kY15 zY15
  clear hB HX HY HA HZ HV HW
  have HX := GX; clear GX
  have HY := GY; clear GY
  have HA := GA; clear GA
  have HZ := GZ; clear GZ
  have HV := GV; clear GV
  have HW := GW; clear GW
  have kA0 : w5.cell? ⟨w.heap.size + 2, 0, none⟩ = some (.int .u8 k) := (cellAt' HA.out 0).trans rfl
  have kA1 : w5.cell? ⟨w.heap.size + 2, 1, none⟩ = some (.int .i64 b) := (cellAt' HA.out 1).trans rfl
  have kA2 : w5.cell? ⟨w.heap.size + 2, 2, none⟩ = some (.int .i64 t) := (cellAt' HA.out 2).trans rfl
  have kA3 : w5.cell? ⟨w.heap.size + 2, 3, none⟩ = some (.slice p.a p.n p.c) := (cellAt' HA.out 3).trans rfl
  go_wp2_with fail
  clear GC GS
  cases s with
  | false =>
    refine ra_start (n := 11) (listed := #[false, false, false, false, false, false, false, false, false, false, false]) (by kernel_rfl) rfl rfl ?_
    refine ra_take (i := 2) (o := ?o4) (v := ?v4) (listed' := ?l4) (a' := ?a4) ?hi4 (by kernel_rfl) (by kernel_rfl) (by kernel_rfl) ?hq4 ?hl4 ?hw4 ?hv4 ?ha4 ?hh4
    case hi4 => (simp only [List.getElem?_toArray, List.getElem?_cons_succ, List.getElem?_cons_zero]; try rfl)
    case hq4 => exact fun _ _ _ h => h
    case hl4 => (simp only [List.setIfInBounds_toArray, List.set_cons_succ, List.set_cons_zero]; try rfl)
    case hw4 => rfl
    case hv4 =>
      intro w
      go_simp
      try with_reducible rfl
    case ha4 => (simp only [Act.put, List.setIfInBounds_toArray, List.set_cons_succ, List.set_cons_zero]; try rfl)
    refine ra_take (i := 3) (o := ?o5) (v := ?v5) (listed' := ?l5) (a' := ?a5) ?hi5 (by kernel_rfl) (by kernel_rfl) (by kernel_rfl) ?hq5 ?hl5 ?hw5 ?hv5 ?ha5 ?hh5
    case hi5 => (simp only [List.getElem?_toArray, List.getElem?_cons_succ, List.getElem?_cons_zero]; try rfl)
    case hq5 => exact fun _ _ _ h => h
    case hl5 => (simp only [List.setIfInBounds_toArray, List.set_cons_succ, List.set_cons_zero]; try rfl)
    case hw5 => rfl
    case hv5 =>
      intro w
      go_simp
      try with_reducible rfl
    case ha5 => (simp only [Act.put, List.setIfInBounds_toArray, List.set_cons_succ, List.set_cons_zero]; try rfl)
    refine ra_skip (i := 4) (o := ?o6) (listed' := ?l6) (a' := ?a6) ?hi6 (by kernel_rfl) (by kernel_rfl) (by kernel_rfl) ?hq6 ?hl6 ?hw6 ?ha6 ?hh6
    case hi6 => (simp only [List.getElem?_toArray, List.getElem?_cons_succ, List.getElem?_cons_zero]; try rfl)
    case hq6 => exact fun _ _ _ h => h
    case hl6 => (simp only [List.setIfInBounds_toArray, List.set_cons_succ, List.set_cons_zero]; try rfl)
    case hw6 => rfl
    case ha6 => (simp only [Act.put, List.setIfInBounds_toArray, List.set_cons_succ, List.set_cons_zero]; try rfl)
    refine ra_skip (i := 5) (o := ?o7) (listed' := ?l7) (a' := ?a7) ?hi7 (by kernel_rfl) (by kernel_rfl) (by kernel_rfl) ?hq7 ?hl7 ?hw7 ?ha7 ?hh7
    case hi7 => (simp only [List.getElem?_toArray, List.getElem?_cons_succ, List.getElem?_cons_zero]; try rfl)
    case hq7 => exact fun _ _ _ h => h
    case hl7 => (simp only [List.setIfInBounds_toArray, List.set_cons_succ, List.set_cons_zero]; try rfl)
    case hw7 => rfl
    case ha7 => (simp only [Act.put, List.setIfInBounds_toArray, List.set_cons_succ, List.set_cons_zero]; try rfl)
    refine ra_skip (i := 6) (o := ?o8) (listed' := ?l8) (a' := ?a8) ?hi8 (by kernel_rfl) (by kernel_rfl) (by kernel_rfl) ?hq8 ?hl8 ?hw8 ?ha8 ?hh8
    case hi8 => (simp only [List.getElem?_toArray, List.getElem?_cons_succ, List.getElem?_cons_zero]; try rfl)
    case hq8 => exact fun _ _ _ h => h
    case hl8 => (simp only [List.setIfInBounds_toArray, List.set_cons_succ, List.set_cons_zero]; try rfl)
    case hw8 => rfl
    case ha8 => (simp only [Act.put, List.setIfInBounds_toArray, List.set_cons_succ, List.set_cons_zero]; try rfl)
    refine ra_take (i := 7) (o := ?o9) (v := ?v9) (listed' := ?l9) (a' := ?a9) ?hi9 (by kernel_rfl) (by kernel_rfl) (by kernel_rfl) ?hq9 ?hl9 ?hw9 ?hv9 ?ha9 ?hh9
    case hi9 => (simp only [List.getElem?_toArray, List.getElem?_cons_succ, List.getElem?_cons_zero]; try rfl)
    case hq9 => exact fun _ _ _ h => h
    case hl9 => (simp only [List.setIfInBounds_toArray, List.set_cons_succ, List.set_cons_zero]; try rfl)
    case hw9 => rfl
    case hv9 =>
      intro w
      go_simp
      try with_reducible rfl
    case ha9 => (simp only [Act.put, List.setIfInBounds_toArray, List.set_cons_succ, List.set_cons_zero]; try rfl)
    refine wpAny_ready (rs := [0, 1]) (by kernel_rfl) (by simp) ?_
    with_reducible refine ra_loadC (o := ?o10) (listed' := ?l10) (a' := ?a10) (x := ?x10) (b := ?b10) (T := 30) e1 ?hi10 ?hl10 ?hg10 ?ho10 ?hx10 ?hc10 ?ha10 ?hh10 ?hs10
    case hi10 => (simp only [List.getElem?_toArray, List.getElem?_cons_zero]; try rfl)
    case hl10 => (simp only [List.setIfInBounds_toArray, List.set_cons_zero]; try rfl)
    case hg10 => rfl
    case ho10 => rfl
    case hx10 => rfl
    case hc10 => exact (obDrew HX.out)
    case ha10 => (simp only [Act.put, List.setIfInBounds_toArray, List.set_cons_succ, List.set_cons_zero]; try rfl)
    case hs10 =>
      with_reducible refine ra_loadR (o := ?o11) (listed' := ?l11) (a' := ?a11) (x := ?x11) (b := ?b11) (T := 36) ({ m with fr := true } : Ev) ?hi11 ?hl11 ?hg11 ?ho11 ?hx11 ?hc11 ?ha11 ?hh11 ?hs11
      case hi11 => (simp only [List.getElem?_toArray, List.getElem?_cons_succ, List.getElem?_cons_zero]; try rfl)
      case hl11 => (simp only [List.setIfInBounds_toArray, List.set_cons_succ, List.set_cons_zero]; try rfl)
      case hg11 => rfl
      case ho11 => rfl
      case hx11 => rfl
      case hc11 => exact (obDrew HY.out)
      case ha11 => (simp only [Act.put, List.setIfInBounds_toArray, List.set_cons_succ, List.set_cons_zero]; try rfl)
      case hs11 =>
        exact AllReady.nil
      refine wpAny_ready (rs := [0]) (by kernel_rfl) (by simp) ?_
      with_reducible refine ra_loadC (o := ?o12) (listed' := ?l12) (a' := ?a12) (x := ?x12) (b := ?b12) (T := 30) e1 ?hi12 ?hl12 ?hg12 ?ho12 ?hx12 ?hc12 ?ha12 ?hh12 ?hs12
      case hi12 => (simp only [List.getElem?_toArray, List.getElem?_cons_zero]; try rfl)
      case hl12 => (simp only [List.setIfInBounds_toArray, List.set_cons_zero]; try rfl)
      case hg12 => rfl
      case ho12 => rfl
      case hx12 => rfl
      case hc12 => exact (obDrew HX.out)
      case ha12 => (simp only [Act.put, List.setIfInBounds_toArray, List.set_cons_succ, List.set_cons_zero]; try rfl)
      case hs12 =>
        exact AllReady.nil
      refine wpAny_ready (rs := [8]) (by kernel_rfl) (by simp) ?_
      with_reducible refine ra_storeC (o := ?o13) (listed' := ?l13) (x := ?x13) (y := ?y13) (b := ?b13) (T := 30) e1 ?hi13 ?hl13 ?hg13 ?ho13 ?hx13 ?hy13 ?hd13 ?hc13 ?hh13 ?hs13
      case hi13 => (simp only [List.getElem?_toArray, List.getElem?_cons_succ, List.getElem?_cons_zero]; try rfl)
      case hl13 => (simp only [List.setIfInBounds_toArray, List.set_cons_succ, List.set_cons_zero]; try rfl)
      case hg13 => rfl
      case ho13 => rfl
      case hx13 => rfl
      case hy13 => rfl
      case hd13 => rfl
      case hc13 => exact Ob.room (obDrew HZ.out)
      case hs13 =>
        exact AllReady.nil
      intro w7 hO hU
      have GZ := hid hO
      have GX : Hid (Ob w7 (w.heap.size) 30 e1) := hid (hU.ob ((obDrew HX.out)) (by omega))
      have GY : Hid (Ob w7 (w.heap.size + 1) 36 ({ m with fr := true } : Ev)) := hid (hU.ob ((obDrew HY.out)) (by omega))
      have GA : Hid (w7.heap[w.heap.size + 2]? = some ((.cells #[.int .u8 k, .int .i64 b, .int .i64 t, p.v] 35))) := hid (hU.ob ((obDrew HA.out)) (by omega))
      have GV : Hid (Ob w7 (w.heap.size + 4) 36 zE) := hid (hU.ob ((obDrew HV.out)) (by omega))
      have GW := hid (((belowDrew HW.out)).trans (hU.below _ (by first | exact Nat.le_refl _ | omega)))
      clear hO hU
      clear kA0 kA1 kA2 kA3
      clear HX HY HA HZ HV HW
      have HX := GX
      clear GX
      have HY := GY
      clear GY
      have HA := GA
      clear GA
      have HZ := GZ
      clear GZ
      have HV := GV
      clear GV
      have HW := GW
      clear GW
      refine wpAny_ready (rs := [9]) (by kernel_rfl) (by simp) ?_
      with_reducible refine ra_storeR (o := ?o14) (listed' := ?l14) (x := ?x14) (y := ?y14) (b := ?b14) (T := 36) ({ m with fr := true } : Ev) ?hi14 ?hl14 ?hg14 ?ho14 ?hx14 ?hy14 ?hd14 ?hc14 ?hh14 ?hs14
      case hi14 => (simp only [List.getElem?_toArray, List.getElem?_cons_succ, List.getElem?_cons_zero]; try rfl)
      case hl14 => (simp only [List.setIfInBounds_toArray, List.set_cons_succ, List.set_cons_zero]; try rfl)
      case hg14 => rfl
      case ho14 => rfl
      case hx14 => rfl
      case hy14 => rfl
      case hd14 => rfl
      case hc14 => exact Ob.room HV.out
      case hs14 =>
        exact AllReady.nil
      intro w8 hO hU
      have GV := hid hO
      have GX : Hid (Ob w8 (w.heap.size) 30 e1) := hid (hU.ob (HX.out) (by omega))
      have GY : Hid (Ob w8 (w.heap.size + 1) 36 ({ m with fr := true } : Ev)) := hid (hU.ob (HY.out) (by omega))
      have GA : Hid (w8.heap[w.heap.size + 2]? = some ((.cells #[.int .u8 k, .int .i64 b, .int .i64 t, p.v] 35))) := hid (hU.ob (HA.out) (by omega))
      have GZ : Hid (Ob w8 (w.heap.size + 3) 30 e1) := hid (hU.ob (HZ.out) (by omega))
      have GW := hid ((HW.out).trans (hU.below _ (by first | exact Nat.le_refl _ | omega)))
      clear hO hU
      clear HX HY HA HZ HV HW
      have HX := GX
      clear GX
      have HY := GY
      clear GY
      have HA := GA
      clear GA
      have HZ := GZ
      clear GZ
      have HV := GV
      clear GV
      have HW := GW
      clear GW
      refine wpAny_ready (rs := [10]) (by kernel_rfl) (by simp) ?_
      with_reducible refine ra_assign (o := ?o15) (listed' := ?l15) (a' := ?a15) (x := ?x15) (v := ?v15) ?hi15 ?hl15 ?hg15 ?ho15 ?hv15 ?ha15 ?hh15 ?hs15
      case hi15 => (simp only [List.getElem?_toArray, List.getElem?_cons_succ, List.getElem?_cons_zero]; try rfl)
      case hl15 => (simp only [List.setIfInBounds_toArray, List.set_cons_succ, List.set_cons_zero]; try rfl)
      case hg15 => rfl
      case ho15 => rfl
      case hv15 => rfl
      case ha15 => (simp only [Act.put, List.setIfInBounds_toArray, List.set_cons_succ, List.set_cons_zero]; try rfl)
      case hs15 =>
        exact AllReady.nil
      refine wpAny_done (by kernel_rfl) ?_ _
      go_wp2_with fail
      refine bodyPost_ret (ret_cell2_tmp rfl rfl rfl rfl (HZ.out).range Try.underlying30 rfl (infoEc e1) (HV.out).range Try.underlying36 rfl (infoE ({ m with fr := true } : Ev))) rfl ⟨⟨_, rfl⟩, HW.out⟩
    refine wpAny_ready (rs := [1, 8]) (by kernel_rfl) (by simp) ?_
    with_reducible refine ra_loadR (o := ?o16) (listed' := ?l16) (a' := ?a16) (x := ?x16) (b := ?b16) (T := 36) ({ m with fr := true } : Ev) ?hi16 ?hl16 ?hg16 ?ho16 ?hx16 ?hc16 ?ha16 ?hh16 ?hs16
    case hi16 => (simp only [List.getElem?_toArray, List.getElem?_cons_succ, List.getElem?_cons_zero]; try rfl)
    case hl16 => (simp only [List.setIfInBounds_toArray, List.set_cons_succ, List.set_cons_zero]; try rfl)
    case hg16 => rfl
    case ho16 => rfl
    case hx16 => rfl
    case hc16 => exact (obDrew HY.out)
    case ha16 => (simp only [Act.put, List.setIfInBounds_toArray, List.set_cons_succ, List.set_cons_zero]; try rfl)
    case hs16 =>
      with_reducible refine ra_storeC (o := ?o17) (listed' := ?l17) (x := ?x17) (y := ?y17) (b := ?b17) (T := 30) e1 ?hi17 ?hl17 ?hg17 ?ho17 ?hx17 ?hy17 ?hd17 ?hc17 ?hh17 ?hs17
      case hi17 => (simp only [List.getElem?_toArray, List.getElem?_cons_succ, List.getElem?_cons_zero]; try rfl)
      case hl17 => (simp only [List.setIfInBounds_toArray, List.set_cons_succ, List.set_cons_zero]; try rfl)
      case hg17 => rfl
      case ho17 => rfl
      case hx17 => rfl
      case hy17 => rfl
      case hd17 => rfl
      case hc17 => exact Ob.room (obDrew HZ.out)
      case hs17 =>
        exact AllReady.nil
      intro w9 hO hU
      have GZ := hid hO
      have GX : Hid (Ob w9 (w.heap.size) 30 e1) := hid (hU.ob ((obDrew HX.out)) (by omega))
      have GY : Hid (Ob w9 (w.heap.size + 1) 36 ({ m with fr := true } : Ev)) := hid (hU.ob ((obDrew HY.out)) (by omega))
      have GA : Hid (w9.heap[w.heap.size + 2]? = some ((.cells #[.int .u8 k, .int .i64 b, .int .i64 t, p.v] 35))) := hid (hU.ob ((obDrew HA.out)) (by omega))
      have GV : Hid (Ob w9 (w.heap.size + 4) 36 zE) := hid (hU.ob ((obDrew HV.out)) (by omega))
      have GW := hid (((belowDrew HW.out)).trans (hU.below _ (by first | exact Nat.le_refl _ | omega)))
      clear hO hU
      clear kA0 kA1 kA2 kA3
      clear HX HY HA HZ HV HW
      have HX := GX
      clear GX
      have HY := GY
      clear GY
      have HA := GA
      clear GA
      have HZ := GZ
      clear GZ
      have HV := GV
      clear GV
      have HW := GW
      clear GW
      refine wpAny_ready (rs := [1]) (by kernel_rfl) (by simp) ?_
      with_reducible refine ra_loadR (o := ?o18) (listed' := ?l18) (a' := ?a18) (x := ?x18) (b := ?b18) (T := 36) ({ m with fr := true } : Ev) ?hi18 ?hl18 ?hg18 ?ho18 ?hx18 ?hc18 ?ha18 ?hh18 ?hs18
      case hi18 => (simp only [List.getElem?_toArray, List.getElem?_cons_succ, List.getElem?_cons_zero]; try rfl)
      case hl18 => (simp only [List.setIfInBounds_toArray, List.set_cons_succ, List.set_cons_zero]; try rfl)
      case hg18 => rfl
      case ho18 => rfl
      case hx18 => rfl
      case hc18 => exact HY.out
      case ha18 => (simp only [Act.put, List.setIfInBounds_toArray, List.set_cons_succ, List.set_cons_zero]; try rfl)
      case hs18 =>
        exact AllReady.nil
      refine wpAny_ready (rs := [9]) (by kernel_rfl) (by simp) ?_
      with_reducible refine ra_storeR (o := ?o19) (listed' := ?l19) (x := ?x19) (y := ?y19) (b := ?b19) (T := 36) ({ m with fr := true } : Ev) ?hi19 ?hl19 ?hg19 ?ho19 ?hx19 ?hy19 ?hd19 ?hc19 ?hh19 ?hs19
      case hi19 => (simp only [List.getElem?_toArray, List.getElem?_cons_succ, List.getElem?_cons_zero]; try rfl)
      case hl19 => (simp only [List.setIfInBounds_toArray, List.set_cons_succ, List.set_cons_zero]; try rfl)
      case hg19 => rfl
      case ho19 => rfl
      case hx19 => rfl
      case hy19 => rfl
      case hd19 => rfl
      case hc19 => exact Ob.room HV.out
      case hs19 =>
        exact AllReady.nil
      intro w10 hO hU
      have GV := hid hO
      have GX : Hid (Ob w10 (w.heap.size) 30 e1) := hid (hU.ob (HX.out) (by omega))
      have GY : Hid (Ob w10 (w.heap.size + 1) 36 ({ m with fr := true } : Ev)) := hid (hU.ob (HY.out) (by omega))
      have GA : Hid (w10.heap[w.heap.size + 2]? = some ((.cells #[.int .u8 k, .int .i64 b, .int .i64 t, p.v] 35))) := hid (hU.ob (HA.out) (by omega))
      have GZ : Hid (Ob w10 (w.heap.size + 3) 30 e1) := hid (hU.ob (HZ.out) (by omega))
      have GW := hid ((HW.out).trans (hU.below _ (by first | exact Nat.le_refl _ | omega)))
      clear hO hU
      clear HX HY HA HZ HV HW
      have HX := GX
      clear GX
      have HY := GY
      clear GY
      have HA := GA
      clear GA
      have HZ := GZ
      clear GZ
      have HV := GV
      clear GV
      have HW := GW
      clear GW
      refine wpAny_ready (rs := [10]) (by kernel_rfl) (by simp) ?_
      with_reducible refine ra_assign (o := ?o20) (listed' := ?l20) (a' := ?a20) (x := ?x20) (v := ?v20) ?hi20 ?hl20 ?hg20 ?ho20 ?hv20 ?ha20 ?hh20 ?hs20
      case hi20 => (simp only [List.getElem?_toArray, List.getElem?_cons_succ, List.getElem?_cons_zero]; try rfl)
      case hl20 => (simp only [List.setIfInBounds_toArray, List.set_cons_succ, List.set_cons_zero]; try rfl)
      case hg20 => rfl
      case ho20 => rfl
      case hv20 => rfl
      case ha20 => (simp only [Act.put, List.setIfInBounds_toArray, List.set_cons_succ, List.set_cons_zero]; try rfl)
      case hs20 =>
        exact AllReady.nil
      refine wpAny_done (by kernel_rfl) ?_ _
      go_wp2_with fail
      refine bodyPost_ret (ret_cell2_tmp rfl rfl rfl rfl (HZ.out).range Try.underlying30 rfl (infoEc e1) (HV.out).range Try.underlying36 rfl (infoE ({ m with fr := true } : Ev))) rfl ⟨⟨_, rfl⟩, HW.out⟩
    refine wpAny_ready (rs := [8]) (by kernel_rfl) (by simp) ?_
    with_reducible refine ra_storeC (o := ?o21) (listed' := ?l21) (x := ?x21) (y := ?y21) (b := ?b21) (T := 30) e1 ?hi21 ?hl21 ?hg21 ?ho21 ?hx21 ?hy21 ?hd21 ?hc21 ?hh21 ?hs21
    case hi21 => (simp only [List.getElem?_toArray, List.getElem?_cons_succ, List.getElem?_cons_zero]; try rfl)
    case hl21 => (simp only [List.setIfInBounds_toArray, List.set_cons_succ, List.set_cons_zero]; try rfl)
    case hg21 => rfl
    case ho21 => rfl
    case hx21 => rfl
    case hy21 => rfl
    case hd21 => rfl
    case hc21 => exact Ob.room (obDrew HZ.out)
    case hs21 =>
      exact AllReady.nil
    intro w11 hO hU
    have GZ := hid hO
    have GX : Hid (Ob w11 (w.heap.size) 30 e1) := hid (hU.ob ((obDrew HX.out)) (by omega))
    have GY : Hid (Ob w11 (w.heap.size + 1) 36 ({ m with fr := true } : Ev)) := hid (hU.ob ((obDrew HY.out)) (by omega))
    have GA : Hid (w11.heap[w.heap.size + 2]? = some ((.cells #[.int .u8 k, .int .i64 b, .int .i64 t, p.v] 35))) := hid (hU.ob ((obDrew HA.out)) (by omega))
    have GV : Hid (Ob w11 (w.heap.size + 4) 36 zE) := hid (hU.ob ((obDrew HV.out)) (by omega))
    have GW := hid (((belowDrew HW.out)).trans (hU.below _ (by first | exact Nat.le_refl _ | omega)))
    clear hO hU
    clear kA0 kA1 kA2 kA3
    clear HX HY HA HZ HV HW
    have HX := GX
    clear GX
    have HY := GY
    clear GY
    have HA := GA
    clear GA
    have HZ := GZ
    clear GZ
    have HV := GV
    clear GV
    have HW := GW
    clear GW
    refine wpAny_ready (rs := [9]) (by kernel_rfl) (by simp) ?_
    with_reducible refine ra_storeR (o := ?o22) (listed' := ?l22) (x := ?x22) (y := ?y22) (b := ?b22) (T := 36) ({ m with fr := true } : Ev) ?hi22 ?hl22 ?hg22 ?ho22 ?hx22 ?hy22 ?hd22 ?hc22 ?hh22 ?hs22
    case hi22 => (simp only [List.getElem?_toArray, List.getElem?_cons_succ, List.getElem?_cons_zero]; try rfl)
    case hl22 => (simp only [List.setIfInBounds_toArray, List.set_cons_succ, List.set_cons_zero]; try rfl)
    case hg22 => rfl
    case ho22 => rfl
    case hx22 => rfl
    case hy22 => rfl
    case hd22 => rfl
    case hc22 => exact Ob.room HV.out
    case hs22 =>
      exact AllReady.nil
    intro w12 hO hU
    have GV := hid hO
    have GX : Hid (Ob w12 (w.heap.size) 30 e1) := hid (hU.ob (HX.out) (by omega))
    have GY : Hid (Ob w12 (w.heap.size + 1) 36 ({ m with fr := true } : Ev)) := hid (hU.ob (HY.out) (by omega))
    have GA : Hid (w12.heap[w.heap.size + 2]? = some ((.cells #[.int .u8 k, .int .i64 b, .int .i64 t, p.v] 35))) := hid (hU.ob (HA.out) (by omega))
    have GZ : Hid (Ob w12 (w.heap.size + 3) 30 e1) := hid (hU.ob (HZ.out) (by omega))
    have GW := hid ((HW.out).trans (hU.below _ (by first | exact Nat.le_refl _ | omega)))
    clear hO hU
    clear HX HY HA HZ HV HW
    have HX := GX
    clear GX
    have HY := GY
    clear GY
    have HA := GA
    clear GA
    have HZ := GZ
    clear GZ
    have HV := GV
    clear GV
    have HW := GW
    clear GW
    refine wpAny_ready (rs := [10]) (by kernel_rfl) (by simp) ?_
    with_reducible refine ra_assign (o := ?o23) (listed' := ?l23) (a' := ?a23) (x := ?x23) (v := ?v23) ?hi23 ?hl23 ?hg23 ?ho23 ?hv23 ?ha23 ?hh23 ?hs23
    case hi23 => (simp only [List.getElem?_toArray, List.getElem?_cons_succ, List.getElem?_cons_zero]; try rfl)
    case hl23 => (simp only [List.setIfInBounds_toArray, List.set_cons_succ, List.set_cons_zero]; try rfl)
    case hg23 => rfl
    case ho23 => rfl
    case hv23 => rfl
    case ha23 => (simp only [Act.put, List.setIfInBounds_toArray, List.set_cons_succ, List.set_cons_zero]; try rfl)
    case hs23 =>
      exact AllReady.nil
    refine wpAny_done (by kernel_rfl) ?_ _
    go_wp2_with fail
    refine bodyPost_ret (ret_cell2_tmp rfl rfl rfl rfl (HZ.out).range Try.underlying30 rfl (infoEc e1) (HV.out).range Try.underlying36 rfl (infoE ({ m with fr := true } : Ev))) rfl ⟨⟨_, rfl⟩, HW.out⟩
  | true =>
    refine ra_start (n := 11) (listed := #[false, false, false, false, false, false, false, false, false, false, false]) (by kernel_rfl) rfl rfl ?_
    refine ra_take (i := 2) (o := ?o24) (v := ?v24) (listed' := ?l24) (a' := ?a24) ?hi24 (by kernel_rfl) (by kernel_rfl) (by kernel_rfl) ?hq24 ?hl24 ?hw24 ?hv24 ?ha24 ?hh24
    case hi24 => (simp only [List.getElem?_toArray, List.getElem?_cons_succ, List.getElem?_cons_zero]; try rfl)
    case hq24 => exact fun _ _ _ h => h
    case hl24 => (simp only [List.setIfInBounds_toArray, List.set_cons_succ, List.set_cons_zero]; try rfl)
    case hw24 => rfl
    case hv24 =>
      intro w
      go_simp
      try with_reducible rfl
    case ha24 => (simp only [Act.put, List.setIfInBounds_toArray, List.set_cons_succ, List.set_cons_zero]; try rfl)
    refine ra_take (i := 3) (o := ?o25) (v := ?v25) (listed' := ?l25) (a' := ?a25) ?hi25 (by kernel_rfl) (by kernel_rfl) (by kernel_rfl) ?hq25 ?hl25 ?hw25 ?hv25 ?ha25 ?hh25
    case hi25 => (simp only [List.getElem?_toArray, List.getElem?_cons_succ, List.getElem?_cons_zero]; try rfl)
    case hq25 => exact fun _ _ _ h => h
    case hl25 => (simp only [List.setIfInBounds_toArray, List.set_cons_succ, List.set_cons_zero]; try rfl)
    case hw25 => rfl
    case hv25 =>
      intro w
      go_simp
      try with_reducible rfl
    case ha25 => (simp only [Act.put, List.setIfInBounds_toArray, List.set_cons_succ, List.set_cons_zero]; try rfl)
    refine ra_take (i := 4) (o := ?o26) (v := ?v26) (listed' := ?l26) (a' := ?a26) ?hi26 (by kernel_rfl) (by kernel_rfl) (by kernel_rfl) ?hq26 ?hl26 ?hw26 ?hv26 ?ha26 ?hh26
    case hi26 => (simp only [List.getElem?_toArray, List.getElem?_cons_succ, List.getElem?_cons_zero]; try rfl)
    case hq26 => exact fun _ _ _ h => h
    case hl26 => (simp only [List.setIfInBounds_toArray, List.set_cons_succ, List.set_cons_zero]; try rfl)
    case hw26 => rfl
    case hv26 =>
      intro w
      go_simp
      try with_reducible rfl
    case ha26 => (simp only [Act.put, List.setIfInBounds_toArray, List.set_cons_succ, List.set_cons_zero]; try rfl)
    refine ra_take (i := 5) (o := ?o27) (v := ?v27) (listed' := ?l27) (a' := ?a27) ?hi27 (by kernel_rfl) (by kernel_rfl) (by kernel_rfl) ?hq27 ?hl27 ?hw27 ?hv27 ?ha27 ?hh27
    case hi27 => (simp only [List.getElem?_toArray, List.getElem?_cons_succ, List.getElem?_cons_zero]; try rfl)
    case hq27 => exact fun _ _ _ h => h
    case hl27 => (simp only [List.setIfInBounds_toArray, List.set_cons_succ, List.set_cons_zero]; try rfl)
    case hw27 => rfl
    case hv27 =>
      intro w
      go_simp
      try with_reducible rfl
    case ha27 => (simp only [Act.put, List.setIfInBounds_toArray, List.set_cons_succ, List.set_cons_zero]; try rfl)
    refine ra_take (i := 6) (o := ?o28) (v := ?v28) (listed' := ?l28) (a' := ?a28) ?hi28 (by kernel_rfl) (by kernel_rfl) (by kernel_rfl) ?hq28 ?hl28 ?hw28 ?hv28 ?ha28 ?hh28
    case hi28 => (simp only [List.getElem?_toArray, List.getElem?_cons_succ, List.getElem?_cons_zero]; try rfl)
    case hq28 => exact fun _ _ _ h => h
    case hl28 => (simp only [List.setIfInBounds_toArray, List.set_cons_succ, List.set_cons_zero]; try rfl)
    case hw28 => rfl
    case hv28 =>
      intro w
      go_simp
      try with_reducible rfl
    case ha28 => (simp only [Act.put, List.setIfInBounds_toArray, List.set_cons_succ, List.set_cons_zero]; try rfl)
    refine ra_take (i := 7) (o := ?o29) (v := ?v29) (listed' := ?l29) (a' := ?a29) ?hi29 (by kernel_rfl) (by kernel_rfl) (by kernel_rfl) ?hq29 ?hl29 ?hw29 ?hv29 ?ha29 ?hh29
    case hi29 => (simp only [List.getElem?_toArray, List.getElem?_cons_succ, List.getElem?_cons_zero]; try rfl)
    case hq29 => exact fun _ _ _ h => h
    case hl29 => (simp only [List.setIfInBounds_toArray, List.set_cons_succ, List.set_cons_zero]; try rfl)
    case hw29 => rfl
    case hv29 =>
      intro w
      go_simp
      try with_reducible rfl
    case ha29 => (simp only [Act.put, List.setIfInBounds_toArray, List.set_cons_succ, List.set_cons_zero]; try rfl)
    refine wpAny_ready (rs := [0, 1]) (by kernel_rfl) (by simp) ?_
    with_reducible refine ra_loadC (o := ?o30) (listed' := ?l30) (a' := ?a30) (x := ?x30) (b := ?b30) (T := 30) e1 ?hi30 ?hl30 ?hg30 ?ho30 ?hx30 ?hc30 ?ha30 ?hh30 ?hs30
    case hi30 => (simp only [List.getElem?_toArray, List.getElem?_cons_zero]; try rfl)
    case hl30 => (simp only [List.setIfInBounds_toArray, List.set_cons_zero]; try rfl)
    case hg30 => rfl
    case ho30 => rfl
    case hx30 => rfl
    case hc30 => exact (obDrew HX.out)
    case ha30 => (simp only [Act.put, List.setIfInBounds_toArray, List.set_cons_succ, List.set_cons_zero]; try rfl)
    case hs30 =>
      with_reducible refine ra_loadR (o := ?o31) (listed' := ?l31) (a' := ?a31) (x := ?x31) (b := ?b31) (T := 36) ({ m with fr := true } : Ev) ?hi31 ?hl31 ?hg31 ?ho31 ?hx31 ?hc31 ?ha31 ?hh31 ?hs31
      case hi31 => (simp only [List.getElem?_toArray, List.getElem?_cons_succ, List.getElem?_cons_zero]; try rfl)
      case hl31 => (simp only [List.setIfInBounds_toArray, List.set_cons_succ, List.set_cons_zero]; try rfl)
      case hg31 => rfl
      case ho31 => rfl
      case hx31 => rfl
      case hc31 => exact (obDrew HY.out)
      case ha31 => (simp only [Act.put, List.setIfInBounds_toArray, List.set_cons_succ, List.set_cons_zero]; try rfl)
      case hs31 =>
        exact AllReady.nil
      refine wpAny_ready (rs := [0]) (by kernel_rfl) (by simp) ?_
      with_reducible refine ra_loadC (o := ?o32) (listed' := ?l32) (a' := ?a32) (x := ?x32) (b := ?b32) (T := 30) e1 ?hi32 ?hl32 ?hg32 ?ho32 ?hx32 ?hc32 ?ha32 ?hh32 ?hs32
      case hi32 => (simp only [List.getElem?_toArray, List.getElem?_cons_zero]; try rfl)
      case hl32 => (simp only [List.setIfInBounds_toArray, List.set_cons_zero]; try rfl)
      case hg32 => rfl
      case ho32 => rfl
      case hx32 => rfl
      case hc32 => exact (obDrew HX.out)
      case ha32 => (simp only [Act.put, List.setIfInBounds_toArray, List.set_cons_succ, List.set_cons_zero]; try rfl)
      case hs32 =>
        exact AllReady.nil
      refine wpAny_ready (rs := [8]) (by kernel_rfl) (by simp) ?_
      with_reducible refine ra_storeC (o := ?o33) (listed' := ?l33) (x := ?x33) (y := ?y33) (b := ?b33) (T := 30) e1 ?hi33 ?hl33 ?hg33 ?ho33 ?hx33 ?hy33 ?hd33 ?hc33 ?hh33 ?hs33
      case hi33 => (simp only [List.getElem?_toArray, List.getElem?_cons_succ, List.getElem?_cons_zero]; try rfl)
      case hl33 => (simp only [List.setIfInBounds_toArray, List.set_cons_succ, List.set_cons_zero]; try rfl)
      case hg33 => rfl
      case ho33 => rfl
      case hx33 => rfl
      case hy33 => rfl
      case hd33 => rfl
      case hc33 => exact Ob.room (obDrew HZ.out)
      case hs33 =>
        exact AllReady.nil
      intro w7 hO hU
      have GZ := hid hO
      have GX : Hid (Ob w7 (w.heap.size) 30 e1) := hid (hU.ob ((obDrew HX.out)) (by omega))
      have GY : Hid (Ob w7 (w.heap.size + 1) 36 ({ m with fr := true } : Ev)) := hid (hU.ob ((obDrew HY.out)) (by omega))
      have GA : Hid (w7.heap[w.heap.size + 2]? = some ((.cells #[.int .u8 k, .int .i64 b, .int .i64 t, p.v] 35))) := hid (hU.ob ((obDrew HA.out)) (by omega))
      have GV : Hid (Ob w7 (w.heap.size + 4) 36 zE) := hid (hU.ob ((obDrew HV.out)) (by omega))
      have GW := hid (((belowDrew HW.out)).trans (hU.below _ (by first | exact Nat.le_refl _ | omega)))
      clear hO hU
      clear kA0 kA1 kA2 kA3
      clear HX HY HA HZ HV HW
      have HX := GX
      clear GX
      have HY := GY
      clear GY
      have HA := GA
      clear GA
      have HZ := GZ
      clear GZ
      have HV := GV
      clear GV
      have HW := GW
      clear GW
      refine wpAny_ready (rs := [9]) (by kernel_rfl) (by simp) ?_
      with_reducible refine ra_storeR (o := ?o34) (listed' := ?l34) (x := ?x34) (y := ?y34) (b := ?b34) (T := 36) ({ m with fr := true } : Ev) ?hi34 ?hl34 ?hg34 ?ho34 ?hx34 ?hy34 ?hd34 ?hc34 ?hh34 ?hs34
      case hi34 => (simp only [List.getElem?_toArray, List.getElem?_cons_succ, List.getElem?_cons_zero]; try rfl)
      case hl34 => (simp only [List.setIfInBounds_toArray, List.set_cons_succ, List.set_cons_zero]; try rfl)
      case hg34 => rfl
      case ho34 => rfl
      case hx34 => rfl
      case hy34 => rfl
      case hd34 => rfl
      case hc34 => exact Ob.room HV.out
      case hs34 =>
        exact AllReady.nil
      intro w8 hO hU
      have GV := hid hO
      have GX : Hid (Ob w8 (w.heap.size) 30 e1) := hid (hU.ob (HX.out) (by omega))
      have GY : Hid (Ob w8 (w.heap.size + 1) 36 ({ m with fr := true } : Ev)) := hid (hU.ob (HY.out) (by omega))
      have GA : Hid (w8.heap[w.heap.size + 2]? = some ((.cells #[.int .u8 k, .int .i64 b, .int .i64 t, p.v] 35))) := hid (hU.ob (HA.out) (by omega))
      have GZ : Hid (Ob w8 (w.heap.size + 3) 30 e1) := hid (hU.ob (HZ.out) (by omega))
      have GW := hid ((HW.out).trans (hU.below _ (by first | exact Nat.le_refl _ | omega)))
      clear hO hU
      clear HX HY HA HZ HV HW
      have HX := GX
      clear GX
      have HY := GY
      clear GY
      have HA := GA
      clear GA
      have HZ := GZ
      clear GZ
      have HV := GV
      clear GV
      have HW := GW
      clear GW
      refine wpAny_ready (rs := [10]) (by kernel_rfl) (by simp) ?_
      with_reducible refine ra_assign (o := ?o35) (listed' := ?l35) (a' := ?a35) (x := ?x35) (v := ?v35) ?hi35 ?hl35 ?hg35 ?ho35 ?hv35 ?ha35 ?hh35 ?hs35
      case hi35 => (simp only [List.getElem?_toArray, List.getElem?_cons_succ, List.getElem?_cons_zero]; try rfl)
      case hl35 => (simp only [List.setIfInBounds_toArray, List.set_cons_succ, List.set_cons_zero]; try rfl)
      case hg35 => rfl
      case ho35 => rfl
      case hv35 => rfl
      case ha35 => (simp only [Act.put, List.setIfInBounds_toArray, List.set_cons_succ, List.set_cons_zero]; try rfl)
      case hs35 =>
        exact AllReady.nil
      refine wpAny_done (by kernel_rfl) ?_ _
      go_wp2_with fail
      refine bodyPost_ret (ret_cell2_tmp rfl rfl rfl rfl (HZ.out).range Try.underlying30 rfl (infoEc e1) (HV.out).range Try.underlying36 rfl (infoE ({ m with fr := true } : Ev))) rfl ⟨⟨_, rfl⟩, HW.out⟩
    refine wpAny_ready (rs := [1, 8]) (by kernel_rfl) (by simp) ?_
    with_reducible refine ra_loadR (o := ?o36) (listed' := ?l36) (a' := ?a36) (x := ?x36) (b := ?b36) (T := 36) ({ m with fr := true } : Ev) ?hi36 ?hl36 ?hg36 ?ho36 ?hx36 ?hc36 ?ha36 ?hh36 ?hs36
    case hi36 => (simp only [List.getElem?_toArray, List.getElem?_cons_succ, List.getElem?_cons_zero]; try rfl)
    case hl36 => (simp only [List.setIfInBounds_toArray, List.set_cons_succ, List.set_cons_zero]; try rfl)
    case hg36 => rfl
    case ho36 => rfl
    case hx36 => rfl
    case hc36 => exact (obDrew HY.out)
    case ha36 => (simp only [Act.put, List.setIfInBounds_toArray, List.set_cons_succ, List.set_cons_zero]; try rfl)
    case hs36 =>
      with_reducible refine ra_storeC (o := ?o37) (listed' := ?l37) (x := ?x37) (y := ?y37) (b := ?b37) (T := 30) e1 ?hi37 ?hl37 ?hg37 ?ho37 ?hx37 ?hy37 ?hd37 ?hc37 ?hh37 ?hs37
      case hi37 => (simp only [List.getElem?_toArray, List.getElem?_cons_succ, List.getElem?_cons_zero]; try rfl)
      case hl37 => (simp only [List.setIfInBounds_toArray, List.set_cons_succ, List.set_cons_zero]; try rfl)
      case hg37 => rfl
      case ho37 => rfl
      case hx37 => rfl
      case hy37 => rfl
      case hd37 => rfl
      case hc37 => exact Ob.room (obDrew HZ.out)
      case hs37 =>
        exact AllReady.nil
      intro w9 hO hU
      have GZ := hid hO
      have GX : Hid (Ob w9 (w.heap.size) 30 e1) := hid (hU.ob ((obDrew HX.out)) (by omega))
      have GY : Hid (Ob w9 (w.heap.size + 1) 36 ({ m with fr := true } : Ev)) := hid (hU.ob ((obDrew HY.out)) (by omega))
      have GA : Hid (w9.heap[w.heap.size + 2]? = some ((.cells #[.int .u8 k, .int .i64 b, .int .i64 t, p.v] 35))) := hid (hU.ob ((obDrew HA.out)) (by omega))
      have GV : Hid (Ob w9 (w.heap.size + 4) 36 zE) := hid (hU.ob ((obDrew HV.out)) (by omega))
      have GW := hid (((belowDrew HW.out)).trans (hU.below _ (by first | exact Nat.le_refl _ | omega)))
      clear hO hU
      clear kA0 kA1 kA2 kA3
      clear HX HY HA HZ HV HW
      have HX := GX
      clear GX
      have HY := GY
      clear GY
      have HA := GA
      clear GA
      have HZ := GZ
      clear GZ
      have HV := GV
      clear GV
      have HW := GW
      clear GW
      refine wpAny_ready (rs := [1]) (by kernel_rfl) (by simp) ?_
      with_reducible refine ra_loadR (o := ?o38) (listed' := ?l38) (a' := ?a38) (x := ?x38) (b := ?b38) (T := 36) ({ m with fr := true } : Ev) ?hi38 ?hl38 ?hg38 ?ho38 ?hx38 ?hc38 ?ha38 ?hh38 ?hs38
      case hi38 => (simp only [List.getElem?_toArray, List.getElem?_cons_succ, List.getElem?_cons_zero]; try rfl)
      case hl38 => (simp only [List.setIfInBounds_toArray, List.set_cons_succ, List.set_cons_zero]; try rfl)
      case hg38 => rfl
      case ho38 => rfl
      case hx38 => rfl
      case hc38 => exact HY.out
      case ha38 => (simp only [Act.put, List.setIfInBounds_toArray, List.set_cons_succ, List.set_cons_zero]; try rfl)
      case hs38 =>
        exact AllReady.nil
      refine wpAny_ready (rs := [9]) (by kernel_rfl) (by simp) ?_
      with_reducible refine ra_storeR (o := ?o39) (listed' := ?l39) (x := ?x39) (y := ?y39) (b := ?b39) (T := 36) ({ m with fr := true } : Ev) ?hi39 ?hl39 ?hg39 ?ho39 ?hx39 ?hy39 ?hd39 ?hc39 ?hh39 ?hs39
      case hi39 => (simp only [List.getElem?_toArray, List.getElem?_cons_succ, List.getElem?_cons_zero]; try rfl)
      case hl39 => (simp only [List.setIfInBounds_toArray, List.set_cons_succ, List.set_cons_zero]; try rfl)
      case hg39 => rfl
      case ho39 => rfl
      case hx39 => rfl
      case hy39 => rfl
      case hd39 => rfl
      case hc39 => exact Ob.room HV.out
      case hs39 =>
        exact AllReady.nil
      intro w10 hO hU
      have GV := hid hO
      have GX : Hid (Ob w10 (w.heap.size) 30 e1) := hid (hU.ob (HX.out) (by omega))
      have GY : Hid (Ob w10 (w.heap.size + 1) 36 ({ m with fr := true } : Ev)) := hid (hU.ob (HY.out) (by omega))
      have GA : Hid (w10.heap[w.heap.size + 2]? = some ((.cells #[.int .u8 k, .int .i64 b, .int .i64 t, p.v] 35))) := hid (hU.ob (HA.out) (by omega))
      have GZ : Hid (Ob w10 (w.heap.size + 3) 30 e1) := hid (hU.ob (HZ.out) (by omega))
      have GW := hid ((HW.out).trans (hU.below _ (by first | exact Nat.le_refl _ | omega)))
      clear hO hU
      clear HX HY HA HZ HV HW
      have HX := GX
      clear GX
      have HY := GY
      clear GY
      have HA := GA
      clear GA
      have HZ := GZ
      clear GZ
      have HV := GV
      clear GV
      have HW := GW
      clear GW
      refine wpAny_ready (rs := [10]) (by kernel_rfl) (by simp) ?_
      with_reducible refine ra_assign (o := ?o40) (listed' := ?l40) (a' := ?a40) (x := ?x40) (v := ?v40) ?hi40 ?hl40 ?hg40 ?ho40 ?hv40 ?ha40 ?hh40 ?hs40
      case hi40 => (simp only [List.getElem?_toArray, List.getElem?_cons_succ, List.getElem?_cons_zero]; try rfl)
      case hl40 => (simp only [List.setIfInBounds_toArray, List.set_cons_succ, List.set_cons_zero]; try rfl)
      case hg40 => rfl
      case ho40 => rfl
      case hv40 => rfl
      case ha40 => (simp only [Act.put, List.setIfInBounds_toArray, List.set_cons_succ, List.set_cons_zero]; try rfl)
      case hs40 =>
        exact AllReady.nil
      refine wpAny_done (by kernel_rfl) ?_ _
      go_wp2_with fail
      refine bodyPost_ret (ret_cell2_tmp rfl rfl rfl rfl (HZ.out).range Try.underlying30 rfl (infoEc e1) (HV.out).range Try.underlying36 rfl (infoE ({ m with fr := true } : Ev))) rfl ⟨⟨_, rfl⟩, HW.out⟩
    refine wpAny_ready (rs := [8]) (by kernel_rfl) (by simp) ?_
    with_reducible refine ra_storeC (o := ?o41) (listed' := ?l41) (x := ?x41) (y := ?y41) (b := ?b41) (T := 30) e1 ?hi41 ?hl41 ?hg41 ?ho41 ?hx41 ?hy41 ?hd41 ?hc41 ?hh41 ?hs41
    case hi41 => (simp only [List.getElem?_toArray, List.getElem?_cons_succ, List.getElem?_cons_zero]; try rfl)
    case hl41 => (simp only [List.setIfInBounds_toArray, List.set_cons_succ, List.set_cons_zero]; try rfl)
    case hg41 => rfl
    case ho41 => rfl
    case hx41 => rfl
    case hy41 => rfl
    case hd41 => rfl
    case hc41 => exact Ob.room (obDrew HZ.out)
    case hs41 =>
      exact AllReady.nil
    intro w11 hO hU
    have GZ := hid hO
    have GX : Hid (Ob w11 (w.heap.size) 30 e1) := hid (hU.ob ((obDrew HX.out)) (by omega))
    have GY : Hid (Ob w11 (w.heap.size + 1) 36 ({ m with fr := true } : Ev)) := hid (hU.ob ((obDrew HY.out)) (by omega))
    have GA : Hid (w11.heap[w.heap.size + 2]? = some ((.cells #[.int .u8 k, .int .i64 b, .int .i64 t, p.v] 35))) := hid (hU.ob ((obDrew HA.out)) (by omega))
    have GV : Hid (Ob w11 (w.heap.size + 4) 36 zE) := hid (hU.ob ((obDrew HV.out)) (by omega))
    have GW := hid (((belowDrew HW.out)).trans (hU.below _ (by first | exact Nat.le_refl _ | omega)))
    clear hO hU
    clear kA0 kA1 kA2 kA3
    clear HX HY HA HZ HV HW
    have HX := GX
    clear GX
    have HY := GY
    clear GY
    have HA := GA
    clear GA
    have HZ := GZ
    clear GZ
    have HV := GV
    clear GV
    have HW := GW
    clear GW
    refine wpAny_ready (rs := [9]) (by kernel_rfl) (by simp) ?_
    with_reducible refine ra_storeR (o := ?o42) (listed' := ?l42) (x := ?x42) (y := ?y42) (b := ?b42) (T := 36) ({ m with fr := true } : Ev) ?hi42 ?hl42 ?hg42 ?ho42 ?hx42 ?hy42 ?hd42 ?hc42 ?hh42 ?hs42
    case hi42 => (simp only [List.getElem?_toArray, List.getElem?_cons_succ, List.getElem?_cons_zero]; try rfl)
    case hl42 => (simp only [List.setIfInBounds_toArray, List.set_cons_succ, List.set_cons_zero]; try rfl)
    case hg42 => rfl
    case ho42 => rfl
    case hx42 => rfl
    case hy42 => rfl
    case hd42 => rfl
    case hc42 => exact Ob.room HV.out
    case hs42 =>
      exact AllReady.nil
    intro w12 hO hU
    have GV := hid hO
    have GX : Hid (Ob w12 (w.heap.size) 30 e1) := hid (hU.ob (HX.out) (by omega))
    have GY : Hid (Ob w12 (w.heap.size + 1) 36 ({ m with fr := true } : Ev)) := hid (hU.ob (HY.out) (by omega))
    have GA : Hid (w12.heap[w.heap.size + 2]? = some ((.cells #[.int .u8 k, .int .i64 b, .int .i64 t, p.v] 35))) := hid (hU.ob (HA.out) (by omega))
    have GZ : Hid (Ob w12 (w.heap.size + 3) 30 e1) := hid (hU.ob (HZ.out) (by omega))
    have GW := hid ((HW.out).trans (hU.below _ (by first | exact Nat.le_refl _ | omega)))
    clear hO hU
    clear HX HY HA HZ HV HW
    have HX := GX
    clear GX
    have HY := GY
    clear GY
    have HA := GA
    clear GA
    have HZ := GZ
    clear GZ
    have HV := GV
    clear GV
    have HW := GW
    clear GW
    refine wpAny_ready (rs := [10]) (by kernel_rfl) (by simp) ?_
    with_reducible refine ra_assign (o := ?o43) (listed' := ?l43) (a' := ?a43) (x := ?x43) (v := ?v43) ?hi43 ?hl43 ?hg43 ?ho43 ?hv43 ?ha43 ?hh43 ?hs43
    case hi43 => (simp only [List.getElem?_toArray, List.getElem?_cons_succ, List.getElem?_cons_zero]; try rfl)
    case hl43 => (simp only [List.setIfInBounds_toArray, List.set_cons_succ, List.set_cons_zero]; try rfl)
    case hg43 => rfl
    case ho43 => rfl
    case hv43 => rfl
    case ha43 => (simp only [Act.put, List.setIfInBounds_toArray, List.set_cons_succ, List.set_cons_zero]; try rfl)
    case hs43 =>
      exact AllReady.nil
    refine wpAny_done (by kernel_rfl) ?_ _
    go_wp2_with fail
    refine bodyPost_ret (ret_cell2_tmp rfl rfl rfl rfl (HZ.out).range Try.underlying30 rfl (infoEc e1) (HV.out).range Try.underlying36 rfl (infoE ({ m with fr := true } : Ev))) rfl ⟨⟨_, rfl⟩, HW.out⟩
end Go.Proofs.Ytmndjdaiailgmaa
