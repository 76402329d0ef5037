import Derived.Test.YtlehcaacfgocaaaGreatG39
namespace Go.Proofs.YtlehcaacfgocaaaGreat
set_option linter.unusedVariables false
open Go.RowKit
open Go.Lib (hid)
set_option maxHeartbeats 32000000 in
set_option maxRecDepth 100000 in
theorem cHandle {w : World} {B : Bd} {q x b b2 N : Nat} {nd : Int} {s : Sd} {wv : Value} {ws : List Ms} {m : Ms} (h : Vo w B q x b b2 N nd s wv ws) (hN : N + m.v.length + ws.length ≤ 9000) (hg : Gd s) (hw : ∀ m ∈ ws, Wt s m) (hBw : B.top ≤ w.heap.size) (hwl : ws.length ≤ 900) (hm : m.at w) (hms : m.short 900) (hml : m.low B) :
    Calls Tryz.prog 13 #[ptr q, .agg m.m.arr] w (OutF w B q x b b2 (N + m.v.length + ws.length + 3) nd wv (handleF nd s ws m)) := by
  have HB := hid (laid1_b w (.cells m.m.arr 50))
  have HM : Hid (OM (w.alloc (.cells m.m.arr 50)) w.heap.size m.m) := hid (laid1_0 w _)
  have HV := hid h
  have HN := hid hN
  have HGD := hid hg
  have HWT := hid hw
  have HBW := hid hBw
  have HWL := hid hwl
  have HMA := hid hm
  have HMS := hid hms
  have HML := hid hml
  have HM4 : Hid (m.short 1024) := hid ⟨by have := hms.1; omega, by have := hms.2.1; omega, by have := hms.2.2; omega⟩
  obtain ⟨ov, hov⟩ : ∃ z, z = s.ov := ⟨_, rfl⟩
  obtain ⟨r, hr⟩ : ∃ z, z = rightM m := ⟨_, rfl⟩
  obtain ⟨so, hso⟩ : ∃ z, z = m.m.so := ⟨_, rfl⟩
  have HOVC : Hid (∀ W, Below w.heap.size w W → Calls Tryz.prog 15 #[ptr q] W fun e w' => e = .returned (.bool ov) ∧ W = w') := hid fun W hB => by rw [hov]; exact cOver (h.on hB)
  have HRC : Hid (∀ W, Below w.heap.size w W → Calls Tryz.prog 37 #[.agg m.m.arr] W fun e w' => e = .returned (.bool r) ∧ Below W.heap.size W w') := hid fun W hB => by rw [hr]; exact cRightM (hm.on hB) HM4.out
  have HOV := hid hov
  have HR := hid hr
  have HSO := hid hso
  clear h hN hg hw hBw hwl hm hms hml hov hr hso
  go_enter Tryz.func13, Tryz.ntmps13
  have tok : Hid (0 = 0) := hid rfl
  rcases ov with _ | _
  · rcases r with _ | _
    · go_wp2_with (first
        | (clear tok; (with_reducible refine opaqueW (w.alloc (.cells m.m.arr 50)) ?_); intro W0 hW; rw [← hW] at HB HM; clear hW)
        | (go_at_call 15; refine (HOVC.out _ HB.out).mono ?_; rintro z wq ⟨rfl, rfl⟩)
        | ((with_reducible refine loadGM (x := ?lx1) (b := w.heap.size) m.m ?lg1 ?lo1 ?lxx1 ?lc1 ?lh1); (case lo1 => rfl); (case lg1 => rfl); (case lxx1 => rfl); (case lc1 => exact HM.out))
        | (go_at_call 37; refine (HRC.out _ HB.out).mono ?_; rintro z w2 ⟨rfl, hB⟩; have HB2 := hid (HB.out.trans (hB.mono HB.out.size)); have HM2 : Hid (OM w2 w.heap.size m.m) := hid (heapB HM.out hB (Array.getElem?_eq_some_iff.1 HM.out).1); have kso : w2.cell? ⟨w.heap.size, 0, none⟩ = some (.int .i64 so) := (by rw [HSO.out]; exact HM2.out.cell (m := m.m) (j := 0) rfl); clear hB)
        | fail)
      go_ret
      have hh : handleF nd s ws m = (s, ws, []) := by unfold handleF; rw [if_neg (fun t => by have := t.2.1; rw [← HR.out] at this; cases this)]
      rw [hh]
      exact OutF.none rfl ((HV.out.on HB2.out).mono (by omega)) (Tch.ofBelow HB2.out)
    · rcases htk : takesB so with _ | _
      · have HTV : Hid (takerV q so = .nilFunc) := hid (no_take htk)
        go_wp2_with (first
          | (clear tok; (with_reducible refine opaqueW (w.alloc (.cells m.m.arr 50)) ?_); intro W0 hW; rw [← hW] at HB HM; clear hW)
          | (go_at_call 15; refine (HOVC.out _ HB.out).mono ?_; rintro z wq ⟨rfl, rfl⟩)
          | ((with_reducible refine loadGM (x := ?lx2) (b := w.heap.size) m.m ?lg2 ?lo2 ?lxx2 ?lc2 ?lh2); (case lo2 => rfl); (case lg2 => rfl); (case lxx2 => rfl); (case lc2 => exact HM.out))
          | (go_at_call 37; refine (HRC.out _ HB.out).mono ?_; rintro z w2 ⟨rfl, hB⟩; have HB2 := hid (HB.out.trans (hB.mono HB.out.size)); have HM2 : Hid (OM w2 w.heap.size m.m) := hid (heapB HM.out hB (Array.getElem?_eq_some_iff.1 HM.out).1); have kso : w2.cell? ⟨w.heap.size, 0, none⟩ = some (.int .i64 so) := (by rw [HSO.out]; exact HM2.out.cell (m := m.m) (j := 0) rfl); clear hB)
          | (go_at_call 38; refine (cTakerOf q so _).mono ?_; rintro z wq ⟨rfl, rfl⟩; rw [HTV.out])
          | fail)
        have hnn := run_eqNN
        go_quiet (fail)
        have HB3 := hid (Below.drewN' HB2.out nq)
        go_wp2_with fail
        go_ret
        have hh : handleF nd s ws m = (s, ws, []) := by unfold handleF; rw [if_neg (fun t => by have := t.2.2.1; rw [← HSO.out, htk] at this; cases this)]
        rw [hh]
        exact OutF.none rfl ((HV.out.on HB3.out).mono (by omega)) (Tch.ofBelow HB3.out)
      · obtain ⟨g, hgv, eg, hT⟩ := cTake (q := q) (m := m) (by rw [← HSO.out]; exact htk)
        rw [← HSO.out] at hgv
        have HTV := hid hgv
        have HEG := hid eg
        have HT := hid hT
        clear hgv eg hT
        go_wp2_with (first
          | (clear tok; (with_reducible refine opaqueW (w.alloc (.cells m.m.arr 50)) ?_); intro W0 hW; rw [← hW] at HB HM; clear hW)
          | (go_at_call 15; refine (HOVC.out _ HB.out).mono ?_; rintro z wq ⟨rfl, rfl⟩)
          | ((with_reducible refine loadGM (x := ?lx3) (b := w.heap.size) m.m ?lg3 ?lo3 ?lxx3 ?lc3 ?lh3); (case lo3 => rfl); (case lg3 => rfl); (case lxx3 => rfl); (case lc3 => exact HM.out))
          | (go_at_call 37; refine (HRC.out _ HB.out).mono ?_; rintro z w2 ⟨rfl, hB⟩; have HB2 := hid (HB.out.trans (hB.mono HB.out.size)); have HM2 : Hid (OM w2 w.heap.size m.m) := hid (heapB HM.out hB (Array.getElem?_eq_some_iff.1 HM.out).1); have kso : w2.cell? ⟨w.heap.size, 0, none⟩ = some (.int .i64 so) := (by rw [HSO.out]; exact HM2.out.cell (m := m.m) (j := 0) rfl); clear hB)
          | (go_at_call 38; refine (cTakerOf q so _).mono ?_; rintro z wq ⟨rfl, rfl⟩; rw [HTV.out])
          | fail)
        have hfn := fun W => run_eqFN g q W
        have HV2 := hid (HV.out.on HB2.out)
        have HNI : Hid (∀ k, w.heap.size ≤ k → ¬ TI x b b2 k) := hid fun k hk hT => by have := HV.out.lt k (.inr hT); omega
        have HF : Hid (∀ W, Tch (TI x b b2) w2 W → W.cell? ⟨q, 0, none⟩ = some (ptr x) ∧ W.cell? ⟨w.heap.size, 4, none⟩ = some (.int .i64 m.m.c.i) ∧ W.cell? ⟨w.heap.size, 5, none⟩ = some (.int .i64 m.m.c.k) ∧ W.cell? ⟨w.heap.size, 6, none⟩ = some (.int .i64 m.m.c.s) ∧ W.cell? ⟨w.heap.size, 7, none⟩ = some (.int .i64 m.m.c.t) ∧ W.cell? ⟨w.heap.size, 8, none⟩ = some (.int .i64 m.m.c.d) ∧ W.cell? ⟨w.heap.size, 9, none⟩ = some (.int .i64 m.m.c.p) ∧ W.cell? ⟨w.heap.size, 10, none⟩ = some (.int .i64 m.m.c.q) ∧ W.cell? ⟨w.heap.size, 12, none⟩ = some (.slice m.m.vp.a m.m.vp.n m.m.vp.c) ∧ W.cell? ⟨w.heap.size, 11, none⟩ = some (.int .i64 m.m.vt)) := hid fun W hW => by
          have hm : OM W w.heap.size m.m := hW.ob HM2.out (HNI.out _ (Nat.le_refl _))
          exact ⟨(cellAt' (hW.ob HV2.out.ob HV2.out.qi) 0).trans rfl, (hm).cell rfl, (hm).cell rfl, (hm).cell rfl, (hm).cell rfl, (hm).cell rfl, (hm).cell rfl, (hm).cell rfl, hm.cell rfl, hm.cell rfl⟩
        refine rh_start (S := fun W => Tch (TI x b b2) w2 W) (n := 18) (listed := #[false, false, false, false, false, false, false, false, false, false, false, false, false, false, false, false, false, false]) (by kernel_rfl) rfl rfl ?_
        have HS0 : Hid (Tch (TI x b b2) w2 w2.drew) := hid (Tch.ofBelow (belowDrew (Below.refl _ w2)))
        have HVd := hid (HV2.out.on (belowDrew (Below.refl _ w2)))
        have HSV := hid ((HMA.out.on HB2.out).1.on (belowDrew (Below.refl _ w2)))
        generalize w2.drew = wd at HS0 HVd HSV ⊢
        refine rh_takeS (i := 0) (o := ?o4) (v := ?v4) (listed' := ?l4) (a' := ?a4) ?hi4 (by kernel_rfl) (by kernel_rfl) (by kernel_rfl) ?hq4 ?hl4 ?hw4 ?hv4 ?ha4 HS0.out ?hh4
        case hi4 => (simp only [List.getElem?_toArray, List.getElem?_cons_zero]; try rfl)
        case hq4 => exact fun _ _ _ h => h
        case hl4 => (simp only [List.setIfInBounds_toArray, List.set_cons_zero]; try rfl)
        case hw4 => rfl
        case hv4 =>
          intro W hW
          obtain ⟨k0, d0, d1, d2, d3, d4, d5, d6, kp, kt⟩ := HF.out W hW
          go_simp
          try with_reducible rfl
        case ha4 => (simp only [Act.put, List.setIfInBounds_toArray, List.set_cons_succ, List.set_cons_zero]; try rfl)
        refine rh_takeS (i := 1) (o := ?o5) (v := ?v5) (listed' := ?l5) (a' := ?a5) ?hi5 (by kernel_rfl) (by kernel_rfl) (by kernel_rfl) ?hq5 ?hl5 ?hw5 ?hv5 ?ha5 HS0.out ?hh5
        case hi5 => (simp only [List.getElem?_toArray, List.getElem?_cons_succ, List.getElem?_cons_zero]; try rfl)
        case hq5 => exact fun _ _ _ h => h
        case hl5 => (simp only [List.setIfInBounds_toArray, List.set_cons_succ, List.set_cons_zero]; try rfl)
        case hw5 => rfl
        case hv5 =>
          intro W hW
          obtain ⟨k0, d0, d1, d2, d3, d4, d5, d6, kp, kt⟩ := HF.out W hW
          go_simp
          try with_reducible rfl
        case ha5 => (simp only [Act.put, List.setIfInBounds_toArray, List.set_cons_succ, List.set_cons_zero]; try rfl)
        refine rh_takeS (i := 2) (o := ?o6) (v := ?v6) (listed' := ?l6) (a' := ?a6) ?hi6 (by kernel_rfl) (by kernel_rfl) (by kernel_rfl) ?hq6 ?hl6 ?hw6 ?hv6 ?ha6 HS0.out ?hh6
        case hi6 => (simp only [List.getElem?_toArray, List.getElem?_cons_succ, List.getElem?_cons_zero]; try rfl)
        case hq6 => exact fun _ _ _ h => h
        case hl6 => (simp only [List.setIfInBounds_toArray, List.set_cons_succ, List.set_cons_zero]; try rfl)
        case hw6 => rfl
        case hv6 =>
          intro W hW
          obtain ⟨k0, d0, d1, d2, d3, d4, d5, d6, kp, kt⟩ := HF.out W hW
          go_simp
          try with_reducible rfl
        case ha6 => (simp only [Act.put, List.setIfInBounds_toArray, List.set_cons_succ, List.set_cons_zero]; try rfl)
        refine rh_takeS (i := 3) (o := ?o7) (v := ?v7) (listed' := ?l7) (a' := ?a7) ?hi7 (by kernel_rfl) (by kernel_rfl) (by kernel_rfl) ?hq7 ?hl7 ?hw7 ?hv7 ?ha7 HS0.out ?hh7
        case hi7 => (simp only [List.getElem?_toArray, List.getElem?_cons_succ, List.getElem?_cons_zero]; try rfl)
        case hq7 => exact fun _ _ _ h => h
        case hl7 => (simp only [List.setIfInBounds_toArray, List.set_cons_succ, List.set_cons_zero]; try rfl)
        case hw7 => rfl
        case hv7 =>
          intro W hW
          obtain ⟨k0, d0, d1, d2, d3, d4, d5, d6, kp, kt⟩ := HF.out W hW
          go_simp
          try with_reducible rfl
        case ha7 => (simp only [Act.put, List.setIfInBounds_toArray, List.set_cons_succ, List.set_cons_zero]; try rfl)
        refine rh_takeS (i := 4) (o := ?o8) (v := ?v8) (listed' := ?l8) (a' := ?a8) ?hi8 (by kernel_rfl) (by kernel_rfl) (by kernel_rfl) ?hq8 ?hl8 ?hw8 ?hv8 ?ha8 HS0.out ?hh8
        case hi8 => (simp only [List.getElem?_toArray, List.getElem?_cons_succ, List.getElem?_cons_zero]; try rfl)
        case hq8 => exact fun _ _ _ h => h
        case hl8 => (simp only [List.setIfInBounds_toArray, List.set_cons_succ, List.set_cons_zero]; try rfl)
        case hw8 => rfl
        case hv8 =>
          intro W hW
          obtain ⟨k0, d0, d1, d2, d3, d4, d5, d6, kp, kt⟩ := HF.out W hW
          go_simp
          try with_reducible rfl
        case ha8 => (simp only [Act.put, List.setIfInBounds_toArray, List.set_cons_succ, List.set_cons_zero]; try rfl)
        refine rh_takeS (i := 5) (o := ?o9) (v := ?v9) (listed' := ?l9) (a' := ?a9) ?hi9 (by kernel_rfl) (by kernel_rfl) (by kernel_rfl) ?hq9 ?hl9 ?hw9 ?hv9 ?ha9 HS0.out ?hh9
        case hi9 => (simp only [List.getElem?_toArray, List.getElem?_cons_succ, List.getElem?_cons_zero]; try rfl)
        case hq9 => exact fun _ _ _ h => h
        case hl9 => (simp only [List.setIfInBounds_toArray, List.set_cons_succ, List.set_cons_zero]; try rfl)
        case hw9 => rfl
        case hv9 =>
          intro W hW
          obtain ⟨k0, d0, d1, d2, d3, d4, d5, d6, kp, kt⟩ := HF.out W hW
          go_simp
          try with_reducible rfl
        case ha9 => (simp only [Act.put, List.setIfInBounds_toArray, List.set_cons_succ, List.set_cons_zero]; try rfl)
        refine rh_takeS (i := 6) (o := ?o10) (v := ?v10) (listed' := ?l10) (a' := ?a10) ?hi10 (by kernel_rfl) (by kernel_rfl) (by kernel_rfl) ?hq10 ?hl10 ?hw10 ?hv10 ?ha10 HS0.out ?hh10
        case hi10 => (simp only [List.getElem?_toArray, List.getElem?_cons_succ, List.getElem?_cons_zero]; try rfl)
        case hq10 => exact fun _ _ _ h => h
        case hl10 => (simp only [List.setIfInBounds_toArray, List.set_cons_succ, List.set_cons_zero]; try rfl)
        case hw10 => rfl
        case hv10 =>
          intro W hW
          obtain ⟨k0, d0, d1, d2, d3, d4, d5, d6, kp, kt⟩ := HF.out W hW
          go_simp
          try with_reducible rfl
        case ha10 => (simp only [Act.put, List.setIfInBounds_toArray, List.set_cons_succ, List.set_cons_zero]; try rfl)
        refine rh_takeS (i := 7) (o := ?o11) (v := ?v11) (listed' := ?l11) (a' := ?a11) ?hi11 (by kernel_rfl) (by kernel_rfl) (by kernel_rfl) ?hq11 ?hl11 ?hw11 ?hv11 ?ha11 HS0.out ?hh11
        case hi11 => (simp only [List.getElem?_toArray, List.getElem?_cons_succ, List.getElem?_cons_zero]; try rfl)
        case hq11 => exact fun _ _ _ h => h
        case hl11 => (simp only [List.setIfInBounds_toArray, List.set_cons_succ, List.set_cons_zero]; try rfl)
        case hw11 => rfl
        case hv11 =>
          intro W hW
          obtain ⟨k0, d0, d1, d2, d3, d4, d5, d6, kp, kt⟩ := HF.out W hW
          go_simp
          try with_reducible rfl
        case ha11 => (simp only [Act.put, List.setIfInBounds_toArray, List.set_cons_succ, List.set_cons_zero]; try rfl)
        refine rh_takeS (i := 8) (o := ?o12) (v := ?v12) (listed' := ?l12) (a' := ?a12) ?hi12 (by kernel_rfl) (by kernel_rfl) (by kernel_rfl) ?hq12 ?hl12 ?hw12 ?hv12 ?ha12 HS0.out ?hh12
        case hi12 => (simp only [List.getElem?_toArray, List.getElem?_cons_succ, List.getElem?_cons_zero]; try rfl)
        case hq12 => exact fun _ _ _ h => h
        case hl12 => (simp only [List.setIfInBounds_toArray, List.set_cons_succ, List.set_cons_zero]; try rfl)
        case hw12 => rfl
        case hv12 =>
          intro W hW
          obtain ⟨k0, d0, d1, d2, d3, d4, d5, d6, kp, kt⟩ := HF.out W hW
          go_simp
          try with_reducible rfl
        case ha12 => (simp only [Act.put, List.setIfInBounds_toArray, List.set_cons_succ, List.set_cons_zero]; try rfl)
        refine rh_takeS (i := 10) (o := ?o13) (v := ?v13) (listed' := ?l13) (a' := ?a13) ?hi13 (by kernel_rfl) (by kernel_rfl) (by kernel_rfl) ?hq13 ?hl13 ?hw13 ?hv13 ?ha13 HS0.out ?hh13
        case hi13 => (simp only [List.getElem?_toArray, List.getElem?_cons_succ, List.getElem?_cons_zero]; try rfl)
        case hq13 => exact fun _ _ _ h => h
        case hl13 => (simp only [List.setIfInBounds_toArray, List.set_cons_succ, List.set_cons_zero]; try rfl)
        case hw13 => rfl
        case hv13 =>
          intro W hW
          obtain ⟨k0, d0, d1, d2, d3, d4, d5, d6, kp, kt⟩ := HF.out W hW
          go_simp
          try with_reducible rfl
        case ha13 => (simp only [Act.put, List.setIfInBounds_toArray, List.set_cons_succ, List.set_cons_zero]; try rfl)
        refine rh_takeS (i := 11) (o := ?o14) (v := ?v14) (listed' := ?l14) (a' := ?a14) ?hi14 (by kernel_rfl) (by kernel_rfl) (by kernel_rfl) ?hq14 ?hl14 ?hw14 ?hv14 ?ha14 HS0.out ?hh14
        case hi14 => (simp only [List.getElem?_toArray, List.getElem?_cons_succ, List.getElem?_cons_zero]; try rfl)
        case hq14 => exact fun _ _ _ h => h
        case hl14 => (simp only [List.setIfInBounds_toArray, List.set_cons_succ, List.set_cons_zero]; try rfl)
        case hw14 => rfl
        case hv14 =>
          intro W hW
          obtain ⟨k0, d0, d1, d2, d3, d4, d5, d6, kp, kt⟩ := HF.out W hW
          go_simp
          try with_reducible rfl
        case ha14 => (simp only [Act.put, List.setIfInBounds_toArray, List.set_cons_succ, List.set_cons_zero]; try rfl)
        refine rh_takeS (i := 12) (o := ?o15) (v := ?v15) (listed' := ?l15) (a' := ?a15) ?hi15 (by kernel_rfl) (by kernel_rfl) (by kernel_rfl) ?hq15 ?hl15 ?hw15 ?hv15 ?ha15 HS0.out ?hh15
        case hi15 => (simp only [List.getElem?_toArray, List.getElem?_cons_succ, List.getElem?_cons_zero]; try rfl)
        case hq15 => exact fun _ _ _ h => h
        case hl15 => (simp only [List.setIfInBounds_toArray, List.set_cons_succ, List.set_cons_zero]; try rfl)
        case hw15 => rfl
        case hv15 =>
          intro W hW
          obtain ⟨k0, d0, d1, d2, d3, d4, d5, d6, kp, kt⟩ := HF.out W hW
          go_simp
          try with_reducible rfl
        case ha15 => (simp only [Act.put, List.setIfInBounds_toArray, List.set_cons_succ, List.set_cons_zero]; try rfl)
        refine wpAnyH_ready (rs := [9]) (by kernel_rfl) (by simp) ?_
        refine rh_consW (i := 9) (o := ?o16) (listed' := ?l16) ?hi16 ?hl16 ?hg16 ?hh16 ?hs16
        case hi16 => (simp only [List.getElem?_toArray, List.getElem?_cons_succ, List.getElem?_cons_zero]; try rfl)
        case hl16 => (simp only [List.setIfInBounds_toArray, List.set_cons_succ, List.set_cons_zero]; try rfl)
        case hg16 => rfl
        case hs16 => exact AllReadyH.nil
        intro K hK
        refine wp_bsC1 m.m.c rfl rfl ?_
        have hb9 := (Below.refl wd.heap.size wd).alloc (Nat.le_refl _) (.cells m.m.c.arr7 45)
        have HS9 := hid (HS0.out.trans (Tch.ofBelow hb9))
        have HV9 := hid (HVd.out.on hb9)
        have HSV9 := hid (HSV.out.on hb9)
        have HOC9 : Hid (Sl (wd.alloc (.cells m.m.c.arr7 45)) (.slice (some ⟨wd.heap.size, 0, none⟩) 1 1) [m.m.c]) := hid Sl.one
        clear hb9
        refine hK.out _ _ HS9.out ?_
        clear hK K
        generalize wd.alloc (.cells m.m.c.arr7 45) = w9 at HS9 HV9 HSV9 HOC9 ⊢
        refine wpAnyH_ready (rs := [13]) (by kernel_rfl) (by simp) ?_
        refine rh_consW (i := 13) (o := ?o17) (listed' := ?l17) ?hi17 ?hl17 ?hg17 ?hh17 ?hs17
        case hi17 => (simp only [List.getElem?_toArray, List.getElem?_cons_succ, List.getElem?_cons_zero]; try rfl)
        case hl17 => (simp only [List.setIfInBounds_toArray, List.set_cons_succ, List.set_cons_zero]; try rfl)
        case hg17 => rfl
        case hs17 => exact AllReadyH.nil
        intro K hK
        refine wp_bsR2 ⟨some ⟨wd.heap.size, 0, none⟩, 1, 1⟩ m.m.vp rfl rfl rfl ?_
        have hb10 := (Below.refl w9.heap.size w9).alloc (Nat.le_refl _) (.cells #[(⟨some ⟨wd.heap.size, 0, none⟩, 1, 1⟩ : Sv).v, m.m.vp.v] 46)
        have HS10 := hid (HS9.out.trans (Tch.ofBelow hb10))
        have HV10 := hid (HV9.out.on hb10)
        have HRW := hid (rows2 (u := ⟨some ⟨wd.heap.size, 0, none⟩, 1, 1⟩) HOC9.out HSV9.out)
        have hz10 : (w9.alloc (.cells #[(⟨some ⟨wd.heap.size, 0, none⟩, 1, 1⟩ : Sv).v, m.m.vp.v] 46)).heap.size = w9.heap.size + 1 := by simp
        have HZ10 := hid hz10
        clear hb10 hz10
        refine hK.out _ _ HS10.out ?_
        clear hK K
        generalize (w9.alloc (.cells #[(⟨some ⟨wd.heap.size, 0, none⟩, 1, 1⟩ : Sv).v, m.m.vp.v] 46)) = w10 at HS10 HV10 HRW HZ10 ⊢
        refine wpAnyH_ready (rs := [14]) (by kernel_rfl) (by simp) ?_
        refine rh_consW (i := 14) (o := ?o18) (listed' := ?l18) ?hi18 ?hl18 ?hg18 ?hh18 ?hs18
        case hi18 => (simp only [List.getElem?_toArray, List.getElem?_cons_succ, List.getElem?_cons_zero]; try rfl)
        case hl18 => (simp only [List.setIfInBounds_toArray, List.set_cons_succ, List.set_cons_zero]; try rfl)
        case hg18 => rfl
        case hs18 => exact AllReadyH.nil
        intro K hK
        go_simp
        refine (cConcatC (cap := 2) HRW.out (by have := HZ10.out; omega) (by simp [lensC]) (by have := HMS.out.1; simp [lensC]; omega) (by simp)).mono ?_
        rintro z w11 ⟨cv, rfl, hO, hB⟩
        have HS11 := hid (HS10.out.trans (Tch.ofBelow hB))
        have HV11 := hid (HV10.out.on hB)
        have HCV : Hid (Sl w11 cv (m.m.c :: m.v)) := hid (by have := hO.sl; rw [show catC [((⟨some ⟨wd.heap.size, 0, none⟩, 1, 1⟩ : Sv), [m.m.c]), (m.m.vp, m.v)] = m.m.c :: m.v by simp [catC]] at this; exact this)
        clear hO hB
        refine hK.out _ _ HS11.out ?_
        clear hK K
        obtain ⟨le, hle⟩ : ∃ z, z = learnE s.xs (m.m.c :: m.v) := ⟨_, rfl⟩
        have HLE := hid hle
        clear hle
        refine wpAnyH_ready (rs := [15]) (by kernel_rfl) (by simp) ?_
        refine rh_consW (i := 15) (o := ?o19) (listed' := ?l19) ?hi19 ?hl19 ?hg19 ?hh19 ?hs19
        case hi19 => (simp only [List.getElem?_toArray, List.getElem?_cons_succ, List.getElem?_cons_zero]; try rfl)
        case hl19 => (simp only [List.setIfInBounds_toArray, List.set_cons_succ, List.set_cons_zero]; try rfl)
        case hg19 => rfl
        case hs19 => exact AllReadyH.nil
        intro K hK
        go_simp
        refine (cLearnV HV11.out HCV.out (by have := HMS.out.1; simp; omega) (by have := HN.out; simp; omega) HLE.out).mono ?_
        rintro z w12 ⟨rfl, hV, hT⟩
        have HS12 := hid (HS11.out.trans hT)
        have HV12 := hid hV
        clear hV hT
        refine hK.out _ _ HS12.out ?_
        clear hK K
        by_cases hl0 : le = 0
        · have HL0 := hid hl0
          subst hl0
          have HV12' := hid (show Vo w12 B q x b b2 (N + (m.m.c :: m.v).length) nd (learnS s (m.m.c :: m.v)) wv ws by have := HV12.out; rw [if_pos rfl] at this; exact this)
          clear HV12
          refine rh_takeS (i := 16) (o := ?o22) (v := ?v22) (listed' := ?l22) (a' := ?a22) ?hi22 (by kernel_rfl) (by kernel_rfl) (by kernel_rfl) ?hq22 ?hl22 ?hw22 ?hv22 ?ha22 HS12.out ?hh22
          case hi22 => (simp only [List.getElem?_toArray, List.getElem?_cons_succ, List.getElem?_cons_zero]; try rfl)
          case hq22 => exact fun _ _ _ h => h
          case hl22 => (simp only [List.setIfInBounds_toArray, List.set_cons_succ, List.set_cons_zero]; try rfl)
          case hw22 => rfl
          case hv22 =>
            intro W hW
            skip
            go_simp
            try with_reducible rfl
          case ha22 => (simp only [Act.put, List.setIfInBounds_toArray, List.set_cons_succ, List.set_cons_zero]; try rfl)
          refine rh_takeS (i := 17) (o := ?o23) (v := ?v23) (listed' := ?l23) (a' := ?a23) ?hi23 (by kernel_rfl) (by kernel_rfl) (by kernel_rfl) ?hq23 ?hl23 ?hw23 ?hv23 ?ha23 HS12.out ?hh23
          case hi23 => (simp only [List.getElem?_toArray, List.getElem?_cons_succ, List.getElem?_cons_zero]; try rfl)
          case hq23 => exact fun _ _ _ h => h
          case hl23 => (simp only [List.setIfInBounds_toArray, List.set_cons_succ, List.set_cons_zero]; try rfl)
          case hw23 => rfl
          case hv23 =>
            intro W hW
            skip
            go_simp
            try with_reducible rfl
          case ha23 => (simp only [Act.put, List.setIfInBounds_toArray, List.set_cons_succ, List.set_cons_zero]; try rfl)
          refine wpAnyH_done (by kernel_rfl) ?_ _
          have HT12 : Hid (Tch (TV q x b b2) w w12) := hid ((Tch.ofBelow HB2.out).trans (tch_i HS12.out))
          go_wp2_with fail
          have HM12 : Hid (OM w12 w.heap.size m.m) := hid (HS12.out.ob HM2.out (HNI.out _ (Nat.le_refl _)))
          have HF2 : Hid (∀ W, Tch (TI x b b2) w12 W → W.cell? ⟨q, 0, none⟩ = some (ptr x) ∧ W.cell? ⟨w.heap.size, 11, none⟩ = some (.int .i64 m.m.vt)) := hid fun W hW => by
            have hm : OM W w.heap.size m.m := hW.ob HM12.out (HNI.out _ (Nat.le_refl _))
            exact ⟨(cellAt' (hW.ob HV12'.out.ob HV12'.out.qi) 0).trans rfl, hm.cell rfl⟩
          refine rh_start (S := fun W => Tch (TI x b b2) w12 W) (n := 8) (listed := #[false, false, false, false, false, false, false, false]) (by kernel_rfl) rfl rfl ?_
          have HS13 : Hid (Tch (TI x b b2) w12 w12.drew) := hid (Tch.ofBelow (belowDrew (Below.refl _ w12)))
          have HV13 := hid (HV12'.out.on (belowDrew (Below.refl _ w12)))
          generalize w12.drew = wd13 at HS13 HV13 ⊢
          refine rh_takeS (i := 0) (o := ?o24) (v := ?v24) (listed' := ?l24) (a' := ?a24) ?hi24 (by kernel_rfl) (by kernel_rfl) (by kernel_rfl) ?hq24 ?hl24 ?hw24 ?hv24 ?ha24 HS13.out ?hh24
          case hi24 => (simp only [List.getElem?_toArray, List.getElem?_cons_zero]; try rfl)
          case hq24 => exact fun _ _ _ h => h
          case hl24 => (simp only [List.setIfInBounds_toArray, List.set_cons_zero]; try rfl)
          case hw24 => rfl
          case hv24 =>
            intro W hW
            obtain ⟨k0, kt⟩ := HF2.out W hW
            go_simp
            try with_reducible rfl
          case ha24 => (simp only [Act.put, List.setIfInBounds_toArray, List.set_cons_succ, List.set_cons_zero]; try rfl)
          refine rh_takeS (i := 1) (o := ?o25) (v := ?v25) (listed' := ?l25) (a' := ?a25) ?hi25 (by kernel_rfl) (by kernel_rfl) (by kernel_rfl) ?hq25 ?hl25 ?hw25 ?hv25 ?ha25 HS13.out ?hh25
          case hi25 => (simp only [List.getElem?_toArray, List.getElem?_cons_succ, List.getElem?_cons_zero]; try rfl)
          case hq25 => exact fun _ _ _ h => h
          case hl25 => (simp only [List.setIfInBounds_toArray, List.set_cons_succ, List.set_cons_zero]; try rfl)
          case hw25 => rfl
          case hv25 =>
            intro W hW
            obtain ⟨k0, kt⟩ := HF2.out W hW
            go_simp
            try with_reducible rfl
          case ha25 => (simp only [Act.put, List.setIfInBounds_toArray, List.set_cons_succ, List.set_cons_zero]; try rfl)
          refine rh_takeS (i := 2) (o := ?o26) (v := ?v26) (listed' := ?l26) (a' := ?a26) ?hi26 (by kernel_rfl) (by kernel_rfl) (by kernel_rfl) ?hq26 ?hl26 ?hw26 ?hv26 ?ha26 HS13.out ?hh26
          case hi26 => (simp only [List.getElem?_toArray, List.getElem?_cons_succ, List.getElem?_cons_zero]; try rfl)
          case hq26 => exact fun _ _ _ h => h
          case hl26 => (simp only [List.setIfInBounds_toArray, List.set_cons_succ, List.set_cons_zero]; try rfl)
          case hw26 => rfl
          case hv26 =>
            intro W hW
            obtain ⟨k0, kt⟩ := HF2.out W hW
            go_simp
            try with_reducible rfl
          case ha26 => (simp only [Act.put, List.setIfInBounds_toArray, List.set_cons_succ, List.set_cons_zero]; try rfl)
          refine rh_takeS (i := 3) (o := ?o27) (v := ?v27) (listed' := ?l27) (a' := ?a27) ?hi27 (by kernel_rfl) (by kernel_rfl) (by kernel_rfl) ?hq27 ?hl27 ?hw27 ?hv27 ?ha27 HS13.out ?hh27
          case hi27 => (simp only [List.getElem?_toArray, List.getElem?_cons_succ, List.getElem?_cons_zero]; try rfl)
          case hq27 => exact fun _ _ _ h => h
          case hl27 => (simp only [List.setIfInBounds_toArray, List.set_cons_succ, List.set_cons_zero]; try rfl)
          case hw27 => rfl
          case hv27 =>
            intro W hW
            obtain ⟨k0, kt⟩ := HF2.out W hW
            go_simp
            try with_reducible rfl
          case ha27 => (simp only [Act.put, List.setIfInBounds_toArray, List.set_cons_succ, List.set_cons_zero]; try rfl)
          refine rh_takeS (i := 4) (o := ?o28) (v := ?v28) (listed' := ?l28) (a' := ?a28) ?hi28 (by kernel_rfl) (by kernel_rfl) (by kernel_rfl) ?hq28 ?hl28 ?hw28 ?hv28 ?ha28 HS13.out ?hh28
          case hi28 => (simp only [List.getElem?_toArray, List.getElem?_cons_succ, List.getElem?_cons_zero]; try rfl)
          case hq28 => exact fun _ _ _ h => h
          case hl28 => (simp only [List.setIfInBounds_toArray, List.set_cons_succ, List.set_cons_zero]; try rfl)
          case hw28 => rfl
          case hv28 =>
            intro W hW
            obtain ⟨k0, kt⟩ := HF2.out W hW
            go_simp
            try with_reducible rfl
          case ha28 => (simp only [Act.put, List.setIfInBounds_toArray, List.set_cons_succ, List.set_cons_zero]; try rfl)
          refine rh_takeS (i := 5) (o := ?o29) (v := ?v29) (listed' := ?l29) (a' := ?a29) ?hi29 (by kernel_rfl) (by kernel_rfl) (by kernel_rfl) ?hq29 ?hl29 ?hw29 ?hv29 ?ha29 HS13.out ?hh29
          case hi29 => (simp only [List.getElem?_toArray, List.getElem?_cons_succ, List.getElem?_cons_zero]; try rfl)
          case hq29 => exact fun _ _ _ h => h
          case hl29 => (simp only [List.setIfInBounds_toArray, List.set_cons_succ, List.set_cons_zero]; try rfl)
          case hw29 => rfl
          case hv29 =>
            intro W hW
            obtain ⟨k0, kt⟩ := HF2.out W hW
            go_simp
            try with_reducible rfl
          case ha29 => (simp only [Act.put, List.setIfInBounds_toArray, List.set_cons_succ, List.set_cons_zero]; try rfl)
          refine rh_takeS (i := 6) (o := ?o30) (v := ?v30) (listed' := ?l30) (a' := ?a30) ?hi30 (by kernel_rfl) (by kernel_rfl) (by kernel_rfl) ?hq30 ?hl30 ?hw30 ?hv30 ?ha30 HS13.out ?hh30
          case hi30 => (simp only [List.getElem?_toArray, List.getElem?_cons_succ, List.getElem?_cons_zero]; try rfl)
          case hq30 => exact fun _ _ _ h => h
          case hl30 => (simp only [List.setIfInBounds_toArray, List.set_cons_succ, List.set_cons_zero]; try rfl)
          case hw30 => rfl
          case hv30 =>
            intro W hW
            obtain ⟨k0, kt⟩ := HF2.out W hW
            go_simp
            try with_reducible rfl
          case ha30 => (simp only [Act.put, List.setIfInBounds_toArray, List.set_cons_succ, List.set_cons_zero]; try rfl)
          refine wpAnyH_ready (rs := [7]) (by kernel_rfl) (by simp) ?_
          refine rh_consW (i := 7) (o := ?o31) (listed' := ?l31) ?hi31 ?hl31 ?hg31 ?hh31 ?hs31
          case hi31 => (simp only [List.getElem?_toArray, List.getElem?_cons_succ, List.getElem?_cons_zero]; try rfl)
          case hl31 => (simp only [List.setIfInBounds_toArray, List.set_cons_succ, List.set_cons_zero]; try rfl)
          case hg31 => rfl
          case hs31 => exact AllReadyH.nil
          intro K hK
          go_simp
          refine (cSeeV HV13.out m.m.vt).mono ?_
          rintro z w14 ⟨rfl, hV, hT⟩
          have HS14 := hid (HS13.out.trans hT)
          have HV14 : Hid (Vo w14 B q x b b2 (N + (m.m.c :: m.v).length) nd (readyS s m) wv ws) := hid hV
          clear hV hT
          refine hK.out _ _ HS14.out ?_
          clear hK K
          refine wpAnyH_done (by kernel_rfl) ?_ _
          have HM14 : Hid (OM w14 w.heap.size m.m) := hid (HS14.out.ob HM12.out (HNI.out _ (Nat.le_refl _)))
          have HT14 : Hid (Tch (TV q x b b2) w w14) := hid (HT12.out.trans (tch_i HS14.out))
          have HMA14 : Hid (m.at w14) := hid (HV.out.ms HT14.out HMA.out)
          have hln := HLE.out.symm
          have hA := cAnswerM HV14.out (by have := HN.out; have := HWL.out; simp; omega) (ready_gd HGD.out hln) (fun y hy => ready_wt (HWT.out y hy)) (Nat.le_trans HBW.out HT14.out.size) HWL.out HMA14.out HM4.out HR.out.symm HML.out (learn_has hln List.mem_cons_self).1 HEG.out HT.out
          have HA := hid hA
          have HLN := hid hln
          clear hA hln
          go_wp2_with (first
            | ((with_reducible refine loadM (x := ?lx32) (b := w.heap.size) m.m ?lg32 ?lo32 ?lxx32 ?lc32 ?lh32); (case lg32 => rfl); (case lo32 => rfl); (case lxx32 => rfl); (case lc32 => exact HM14.out))
            | fail)
          go_at_call 41
          refine HA.out.mono ?_
          intro z w15 hp
          have HP := hid (OutF.mono (N' := N + m.v.length + ws.length + 3) (OutF.from hp HT14.out) (by simp; omega))
          clear hp
          obtain ⟨vz, hvz⟩ : ∃ v, z = .returned v := by obtain ⟨v, _, _, e, _⟩ := HP.out; exact ⟨v, e⟩
          subst hvz
          have hh : handleF nd s ws m = overF (answerT nd (readyS s m) ws m (lkE (readyS s m).xs m.m.c.i)) := by unfold handleF; rw [if_pos ⟨HOV.out.symm, HR.out.symm, by rw [← HSO.out]; exact htk, HLN.out⟩]
          have HH := hid hh
          clear hh
          obtain ⟨k0, k2⟩ := HP.out.ov
          obtain ⟨rv, hrv⟩ : ∃ z, z = (answerT nd (readyS s m) ws m (lkE (readyS s m).xs m.m.c.i)).1.ov := ⟨_, rfl⟩
          rw [← hrv] at k2
          have HRV := hid hrv
          clear hrv
          rcases rv with _ | _
          · go_wp2_with fail
            go_ret
            rw [HH.out]
            unfold overF
            rw [if_neg (by rw [← HRV.out]; simp)]
            exact HP.out
          · go_wp2_with fail
            go_ret
            rw [HH.out]
            unfold overF
            rw [if_pos HRV.out.symm]
            exact HP.out.over
        · have hl0b : (le != 0) = true := by simpa using hl0
          have HL0 := hid hl0
          clear hl0
          refine rh_takeS (i := 16) (o := ?o20) (v := ?v20) (listed' := ?l20) (a' := ?a20) ?hi20 (by kernel_rfl) (by kernel_rfl) (by kernel_rfl) ?hq20 ?hl20 ?hw20 ?hv20 ?ha20 HS12.out ?hh20
          case hi20 => (simp only [List.getElem?_toArray, List.getElem?_cons_succ, List.getElem?_cons_zero]; try rfl)
          case hq20 => exact fun _ _ _ h => h
          case hl20 => (simp only [List.setIfInBounds_toArray, List.set_cons_succ, List.set_cons_zero]; try rfl)
          case hw20 => rfl
          case hv20 =>
            intro W hW
            skip
            go_simp
            try with_reducible rfl
          case ha20 => (simp only [Act.put, List.setIfInBounds_toArray, List.set_cons_succ, List.set_cons_zero]; try rfl)
          refine rh_takeS (i := 17) (o := ?o21) (v := ?v21) (listed' := ?l21) (a' := ?a21) ?hi21 (by kernel_rfl) (by kernel_rfl) (by kernel_rfl) ?hq21 ?hl21 ?hw21 ?hv21 ?ha21 HS12.out ?hh21
          case hi21 => (simp only [List.getElem?_toArray, List.getElem?_cons_succ, List.getElem?_cons_zero]; try rfl)
          case hq21 => exact fun _ _ _ h => h
          case hl21 => (simp only [List.setIfInBounds_toArray, List.set_cons_succ, List.set_cons_zero]; try rfl)
          case hw21 => rfl
          case hv21 =>
            intro W hW
            skip
            go_simp
            try with_reducible rfl
          case ha21 => (simp only [Act.put, List.setIfInBounds_toArray, List.set_cons_succ, List.set_cons_zero]; try rfl)
          refine wpAnyH_done (by kernel_rfl) ?_ _
          have HT12 : Hid (Tch (TV q x b b2) w w12) := hid ((Tch.ofBelow HB2.out).trans (tch_i HS12.out))
          go_wp2_with fail
          go_ret
          have hh : handleF nd s ws m = (s, ws, []) := by unfold handleF; rw [if_neg (fun t => HL0.out (HLE.out.trans t.2.2.2))]
          rw [hh]
          have hv := HV12.out
          rw [if_neg HL0.out] at hv
          exact OutF.none rfl (hv.mono (by simp; omega)) HT12.out
  · go_wp2_with (first
      | (clear tok; (with_reducible refine opaqueW (w.alloc (.cells m.m.arr 50)) ?_); intro W0 hW; rw [← hW] at HB HM; clear hW)
      | (go_at_call 15; refine (HOVC.out _ HB.out).mono ?_; rintro z wq ⟨rfl, rfl⟩)
      | fail)
    go_ret
    have hh : handleF nd s ws m = (s, ws, []) := by unfold handleF; rw [if_neg (fun t => by have := t.1; rw [← HOV.out] at this; cases this)]
    rw [hh]
    exact OutF.none rfl ((HV.out.on HB.out).mono (by omega)) (Tch.ofBelow HB.out)
end Go.Proofs.YtlehcaacfgocaaaGreat
