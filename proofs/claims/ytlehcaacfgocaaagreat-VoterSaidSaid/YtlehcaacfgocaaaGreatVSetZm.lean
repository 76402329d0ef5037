import Derived.Test.YtlehcaacfgocaaaGreatVThruZm
import Derived.Test.YtlehcaacfgocaaaGreatG07
namespace Go.Proofs.YtlehcaacfgocaaaGreat
set_option linter.unusedVariables false
open Go.RowKit
open Go.Lib (hid)
def finY (m : Ms) (y : En) : En := ⟨{ y.e with dn := true, vt := m.m.vt, vp := m.m.vp }, y.f, y.a, m.v⟩
def settleF (nd : Int) (s : Sd) (ws : List Ms) (m : Ms) (y : En) : Sd × List Ms × List An :=
  if y.e.dn = true then (if (decide (y.e.vt = m.m.vt) && sameB y.v m.v) = true then thruF nd (putD s y) ws else (s, ws, [])) else thruF nd (putD s (finY m y)) ws
theorem fin_put {s : Sd} {y : En} {m : Ms} (h : PutOk s y) (hf : fullB m.m.vt m.v = true) (hs : m.v.length ≤ 1024) : PutOk s (finY m y) := ⟨right_fin h.right hf, ⟨h.short.1, h.short.2.1, hs⟩, h.same⟩
theorem fin_low {B : Bd} {y : En} {m : Ms} (hy : y.low B) (hm : m.low B) : (finY m y).low B := ⟨hy.1, hy.2.1, hm.1⟩
theorem fin_at {w : World} {y : En} {m : Ms} (hy : y.at w) (hm : m.at w) : (finY m y).at w := ⟨hy.1, hy.2.1, hm.1⟩
theorem Wt.put {s : Sd} {y : En} {m : Ms} (h : Wt s m) : Wt (putD s y) m := ⟨h.so, h.short, h.full, hasE_put h.has, h.ok⟩
theorem OutF.none {w w' : World} {B : Bd} {q x b b2 N : Nat} {nd : Int} {wv : Value} {ws : List Ms} {s : Sd} {v : Value} (hv : v = .slice Option.none 0 0) (h : Vo w' B q x b b2 N nd s wv ws) (ht : Tch (TV q x b b2) w w') : OutF w B q x b b2 N nd wv (s, ws, []) (.returned v) w' :=
  (OutD.none hv h ht).toF
set_option maxHeartbeats 32000000 in
set_option maxRecDepth 100000 in
theorem cSettle {w : World} {B : Bd} {q x b b2 N : Nat} {nd : Int} {s : Sd} {wv : Value} {ws : List Ms} (h : Vo w B q x b b2 N nd s wv ws) (hN : N + 1 + ws.length ≤ 20000) (hg : Gd s) (hw : ∀ m ∈ ws, Wt s m) (hBw : B.top ≤ w.heap.size) (hwl : ws.length ≤ 1000) {m : Ms} (hm : m.at w) (hms : m.short 1024) (hf : fullB m.m.vt m.v = true) {y : En} (hy : y.at w) (hml : m.low B) (hyl : y.low B) (ok : PutOk s y) :
    Calls Tryz.prog 69 #[ptr q, .agg m.m.arr, .agg y.e.arr] w (OutF w B q x b b2 (N + 1 + ws.length) nd wv (settleF nd s ws m y)) := by
  have HFU := hid hf
  have HGD := hid hg
  have HWT := hid hw
  have HBW := hid hBw
  have HWL := hid hwl
  have HNN := hid hN
  replace hN : N ≤ 20000 := by omega
  clear hf hg hw hBw hwl
  have HB := hid (laid2_b w (.cells m.m.arr 50) (.cells y.e.arr 67))
  have HM : Hid (OM ((w.alloc (.cells m.m.arr 50)).alloc (.cells y.e.arr 67)) w.heap.size m.m) := hid (laid2_0 w _ _)
  have HE : Hid (Ob ((w.alloc (.cells m.m.arr 50)).alloc (.cells y.e.arr 67)) (w.heap.size + 1) 67 y.e) := hid (laid2_1 w _ _)
  have HV := hid h
  have HN := hid hN
  have HMA := hid hm
  have HYA := hid hy
  have HMS := hid hms
  have HOK := hid ok
  have HML := hid hml
  have HYL := hid hyl
  clear hml hyl
  have hzz : ((w.alloc (.cells m.m.arr 50)).alloc (.cells y.e.arr 67)).heap.size = w.heap.size + 2 := by simp
  have HZ := hid hzz
  clear h hN hm hy hms ok hzz
  go_enter Tryz.func69, Tryz.ntmps69
  by_cases hdn : y.e.dn = true
  · have HDN := hid hdn
    clear hdn
    by_cases hsm : (decide (y.e.vt = m.m.vt) && sameB y.v m.v) = true
    · have HSM := hid hsm
      clear hsm
      have tok : Hid (0 = 0) := hid rfl
      go_wp2_with (first
        | (clear tok; (with_reducible refine opaqueW ((w.alloc (.cells m.m.arr 50)).alloc (.cells y.e.arr 67)) ?_); intro W0 hW; rw [← hW] at HB HM HE HZ; clear hW; have kt : W0.cell? ⟨w.heap.size, 11, none⟩ = some (.int .i64 m.m.vt) := HM.out.cell rfl; have kp : W0.cell? ⟨w.heap.size, 12, none⟩ = some (.slice m.m.vp.a m.m.vp.n m.m.vp.c) := HM.out.cell rfl)
        | ((with_reducible refine loadC (x := ?lx1) (b := w.heap.size + 1) (T := 67) y.e ?lg1 ?lo1 ?lxx1 ?lc1 ?lh1); (case lg1 => rfl); (case lo1 => rfl); (case lxx1 => rfl); (case lc1 => exact HE.out))
        | (go_at_call 120; refine (cFinish (HYA.out.on HB.out).2.2 (HMA.out.on HB.out).1 HOK.out.short.2.2 HMS.out.1).mono ?_; rintro z w2 ⟨hz, hB⟩; rw [show finC y.e m.m.vt m.m.vp (fullB m.m.vt m.v) (decide (y.e.vt = m.m.vt) && sameB y.v m.v) = (y.e, 0) by unfold finC; rw [HFU.out, if_neg (by simp), if_pos HDN.out, if_pos HSM.out]] at hz; subst hz; have HB2 := hid hB; have HR2 : Hid (Room w2 (w.heap.size + 1) 67) := hid (Ob.room (heapB HE.out hB (by have := HZ.out; omega))); clear hB)
        | ((with_reducible refine uponStore (e := y.e) HR2.out ?_); intro w3 hO hU; have HO3 := hid hO; have HU3 := hid hU; clear hO hU)
        | fail)
      have HM3 : Hid (OM w3 w.heap.size m.m) := hid (HU3.out.ob (heapB HM.out HB2.out (by have := HZ.out; omega)) (by omega))
      have HB3 : Hid (Below w.heap.size w w3) := hid ((HB.out.trans (HB2.out.mono HB.out.size)).trans (HU3.out.below w.heap.size (Nat.le_succ _)))
      have HOK3 : Hid (PutOk s y) := hid (HOK.out)
      have HYL3 : Hid (y.low B) := hid (HYL.out)
      have HYA3 : Hid (y.at w3) := hid (HYA.out.on HB3.out)
      have HRI := hid HOK3.out.right
      clear HU3 HB2 HR2 HM HE HB kt kp
      have HV3 := hid (HV.out.on HB3.out)
      have HNI : Hid (∀ k, w.heap.size ≤ k → ¬ TI x b b2 k) := hid fun k hk hT => by have := HV.out.lt k (.inr hT); omega
      have HF : Hid (∀ W, Tch (TI x b b2) w3 W → W.cell? ⟨q, 0, none⟩ = some (ptr x)) := hid fun W hW => (cellAt' (hW.ob HV3.out.ob HV3.out.qi) 0).trans rfl
      refine rh_start (S := fun W => Tch (TI x b b2) w3 W) (n := 6) (listed := #[false, false, false, false, false, false]) (by kernel_rfl) rfl rfl ?_
      have HS0 : Hid (Tch (TI x b b2) w3 w3.drew) := hid (Tch.ofBelow (belowDrew (Below.refl _ w3)))
      have HVd := hid (HV3.out.on (belowDrew (Below.refl _ w3)))
      have HYd := hid (HYA3.out.on (belowDrew (Below.refl _ w3)))
      generalize w3.drew = wd3 at HS0 HVd HYd ⊢
      refine rh_takeS (i := 0) (o := ?o2) (v := ?v2) (listed' := ?l2) (a' := ?a2) ?hi2 (by kernel_rfl) (by kernel_rfl) (by kernel_rfl) ?hq2 ?hl2 ?hw2 ?hv2 ?ha2 HS0.out ?hh2
      case hi2 => (simp only [List.getElem?_toArray, List.getElem?_cons_zero]; try rfl)
      case hq2 => exact fun _ _ _ h => h
      case hl2 => (simp only [List.setIfInBounds_toArray, List.set_cons_zero]; try rfl)
      case hw2 => rfl
      case hv2 =>
        intro W hW
        have k0 := HF.out W hW
        go_simp
        try with_reducible rfl
      case ha2 => (simp only [Act.put, List.setIfInBounds_toArray, List.set_cons_succ, List.set_cons_zero]; try rfl)
      refine rh_takeS (i := 1) (o := ?o3) (v := ?v3) (listed' := ?l3) (a' := ?a3) ?hi3 (by kernel_rfl) (by kernel_rfl) (by kernel_rfl) ?hq3 ?hl3 ?hw3 ?hv3 ?ha3 HS0.out ?hh3
      case hi3 => (simp only [List.getElem?_toArray, List.getElem?_cons_succ, List.getElem?_cons_zero]; try rfl)
      case hq3 => exact fun _ _ _ h => h
      case hl3 => (simp only [List.setIfInBounds_toArray, List.set_cons_succ, List.set_cons_zero]; try rfl)
      case hw3 => rfl
      case hv3 =>
        intro W hW
        have k0 := HF.out W hW
        go_simp
        try with_reducible rfl
      case ha3 => (simp only [Act.put, List.setIfInBounds_toArray, List.set_cons_succ, List.set_cons_zero]; try rfl)
      refine rh_takeS (i := 2) (o := ?o4) (v := ?v4) (listed' := ?l4) (a' := ?a4) ?hi4 (by kernel_rfl) (by kernel_rfl) (by kernel_rfl) ?hq4 ?hl4 ?hw4 ?hv4 ?ha4 HS0.out ?hh4
      case hi4 => (simp only [List.getElem?_toArray, List.getElem?_cons_succ, List.getElem?_cons_zero]; try rfl)
      case hq4 => exact fun _ _ _ h => h
      case hl4 => (simp only [List.setIfInBounds_toArray, List.set_cons_succ, List.set_cons_zero]; try rfl)
      case hw4 => rfl
      case hv4 =>
        intro W hW
        have k0 := HF.out W hW
        go_simp
        try with_reducible rfl
      case ha4 => (simp only [Act.put, List.setIfInBounds_toArray, List.set_cons_succ, List.set_cons_zero]; try rfl)
      refine rh_takeS (i := 3) (o := ?o5) (v := ?v5) (listed' := ?l5) (a' := ?a5) ?hi5 (by kernel_rfl) (by kernel_rfl) (by kernel_rfl) ?hq5 ?hl5 ?hw5 ?hv5 ?ha5 HS0.out ?hh5
      case hi5 => (simp only [List.getElem?_toArray, List.getElem?_cons_succ, List.getElem?_cons_zero]; try rfl)
      case hq5 => exact fun _ _ _ h => h
      case hl5 => (simp only [List.setIfInBounds_toArray, List.set_cons_succ, List.set_cons_zero]; try rfl)
      case hw5 => rfl
      case hv5 =>
        intro W hW
        have k0 := HF.out W hW
        go_simp
        try with_reducible rfl
      case ha5 => (simp only [Act.put, List.setIfInBounds_toArray, List.set_cons_succ, List.set_cons_zero]; try rfl)
      refine rh_load (i := 4) (o := ?o6) (cs := y.e.list) (T := 67) (x := ?x6) (b := ?b6) (q := ?q6) (listed' := ?l6) (a' := ?a6) ?hi6 (by kernel_rfl) (by kernel_rfl) (by kernel_rfl) ?hq6 ?hl6 ?hg6 ?ho6 ?hx6 ?hc6 Tryz.underlying67 rfl (infoEc y.e) ?ha6 HS0.out ?hh6
      case hi6 => (simp only [List.getElem?_toArray, List.getElem?_cons_succ, List.getElem?_cons_zero]; try rfl)
      case hq6 => exact fun _ _ _ h => h
      case hl6 => (simp only [List.setIfInBounds_toArray, List.set_cons_succ, List.set_cons_zero]; try rfl)
      case hg6 => rfl
      case ho6 => rfl
      case hx6 => rfl
      case hc6 => exact fun W hW => Ob.range (T := 67) (e := y.e) (hW.ob HO3.out (HNI.out _ (Nat.le_succ _)))
      case ha6 => (show Act.put _ _ (Value.agg y.e.arr) = _); (simp only [Act.put, List.setIfInBounds_toArray, List.set_cons_succ, List.set_cons_zero]; try rfl)
      refine wpAnyH_ready (rs := [5]) (by kernel_rfl) (by simp) ?_
      refine rh_cons (i := 5) (o := ?o7) (listed' := ?l7) ?hi7 ?hl7 ?hg7 ?hh7 ?hs7
      case hi7 => (simp only [List.getElem?_toArray, List.getElem?_cons_succ, List.getElem?_cons_zero]; try rfl)
      case hl7 => (simp only [List.setIfInBounds_toArray, List.set_cons_succ, List.set_cons_zero]; try rfl)
      case hg7 => rfl
      case hs7 => exact AllReadyH.nil
      intro K hK
      go_simp
      refine (cPutV HVd.out HN.out HYd.out HYL3.out HOK3.out).mono ?_
      rintro z w4 ⟨rfl, hV4, hT4⟩
      have HS4 := hid (HS0.out.trans hT4)
      have HV4 := hid hV4
      clear hV4 hT4
      refine hK.out _ _ HS4.out ?_
      clear hK K
      refine wpAnyH_done (by kernel_rfl) ?_ _
      have HM4 : Hid (OM w4 w.heap.size m.m) := hid (HS4.out.ob HM3.out (HNI.out _ (Nat.le_refl _)))
      have HE4 : Hid (Ob w4 (w.heap.size + 1) 67 y.e) := hid (HS4.out.ob HO3.out (HNI.out _ (Nat.le_succ _)))
      have HT4 : Hid (Tch (TV q x b b2) w w4) := hid ((Tch.ofBelow HB3.out).trans (tch_i HS4.out))
      have HY4 : Hid (y.at w4) := hid (HV3.out.en (tch_i HS4.out) HYA3.out)
      clear HF HS0 HVd HYd HYA3 HV3 HO3 HM3 HB3 HS4 HOK3 HNI
      have hT := cThru HV4.out (by have := HNN.out; omega) (gd_put HGD.out HRI.out) (fun y hy => (HWT.out y hy).put) (by have := HBW.out; have := HT4.out.size; omega) HWL.out
      have HTH := hid hT
      clear hT
      go_wp2_with fail
      go_at_call 121
      refine HTH.out.mono ?_
      intro z w5 hp
      have HO := hid (OutF.from hp HT4.out)
      obtain ⟨vz, hvz⟩ : ∃ v, z = .returned v := by obtain ⟨v, _, _, e, _⟩ := hp; exact ⟨v, e⟩
      subst hvz
      clear hp
      go_wp2_with fail
      go_ret
      have hr : settleF nd s ws m y = thruF nd (putD s y) ws := by unfold settleF; rw [if_pos HDN.out, if_pos HSM.out]
      rw [hr]
      exact HO.out
    · have HSM := hid hsm
      clear hsm
      have tok : Hid (0 = 0) := hid rfl
      go_wp2_with (first
        | (clear tok; (with_reducible refine opaqueW ((w.alloc (.cells m.m.arr 50)).alloc (.cells y.e.arr 67)) ?_); intro W0 hW; rw [← hW] at HB HM HE HZ; clear hW; have kt : W0.cell? ⟨w.heap.size, 11, none⟩ = some (.int .i64 m.m.vt) := HM.out.cell rfl; have kp : W0.cell? ⟨w.heap.size, 12, none⟩ = some (.slice m.m.vp.a m.m.vp.n m.m.vp.c) := HM.out.cell rfl)
        | ((with_reducible refine loadC (x := ?lx8) (b := w.heap.size + 1) (T := 67) y.e ?lg8 ?lo8 ?lxx8 ?lc8 ?lh8); (case lg8 => rfl); (case lo8 => rfl); (case lxx8 => rfl); (case lc8 => exact HE.out))
        | (go_at_call 120; refine (cFinish (HYA.out.on HB.out).2.2 (HMA.out.on HB.out).1 HOK.out.short.2.2 HMS.out.1).mono ?_; rintro z w2 ⟨hz, hB⟩; rw [show finC y.e m.m.vt m.m.vp (fullB m.m.vt m.v) (decide (y.e.vt = m.m.vt) && sameB y.v m.v) = (y.e, 6) by unfold finC; rw [HFU.out, if_neg (by simp), if_pos HDN.out, if_neg HSM.out]] at hz; subst hz; have HB2 := hid hB; have HR2 : Hid (Room w2 (w.heap.size + 1) 67) := hid (Ob.room (heapB HE.out hB (by have := HZ.out; omega))); clear hB)
        | ((with_reducible refine uponStore (e := y.e) HR2.out ?_); intro w3 hO hU; have HO3 := hid hO; have HU3 := hid hU; clear hO hU)
        | fail)
      have HB3 : Hid (Below w.heap.size w w3) := hid ((HB.out.trans (HB2.out.mono HB.out.size)).trans (HU3.out.below w.heap.size (Nat.le_succ _)))
      go_ret
      have hr : settleF nd s ws m y = (s, ws, []) := by unfold settleF; rw [if_pos HDN.out, if_neg HSM.out]
      rw [hr]
      exact OutF.none rfl ((HV.out.on HB3.out).mono (by omega)) (Tch.ofBelow HB3.out)
  · have HDN := hid hdn
    clear hdn
    have tok : Hid (0 = 0) := hid rfl
    go_wp2_with (first
      | (clear tok; (with_reducible refine opaqueW ((w.alloc (.cells m.m.arr 50)).alloc (.cells y.e.arr 67)) ?_); intro W0 hW; rw [← hW] at HB HM HE HZ; clear hW; have kt : W0.cell? ⟨w.heap.size, 11, none⟩ = some (.int .i64 m.m.vt) := HM.out.cell rfl; have kp : W0.cell? ⟨w.heap.size, 12, none⟩ = some (.slice m.m.vp.a m.m.vp.n m.m.vp.c) := HM.out.cell rfl)
      | ((with_reducible refine loadC (x := ?lx9) (b := w.heap.size + 1) (T := 67) y.e ?lg9 ?lo9 ?lxx9 ?lc9 ?lh9); (case lg9 => rfl); (case lo9 => rfl); (case lxx9 => rfl); (case lc9 => exact HE.out))
      | (go_at_call 120; refine (cFinish (HYA.out.on HB.out).2.2 (HMA.out.on HB.out).1 HOK.out.short.2.2 HMS.out.1).mono ?_; rintro z w2 ⟨hz, hB⟩; rw [show finC y.e m.m.vt m.m.vp (fullB m.m.vt m.v) (decide (y.e.vt = m.m.vt) && sameB y.v m.v) = ((finY m y).e, 0) by unfold finC; rw [HFU.out, if_neg (by simp), if_neg HDN.out]; rfl] at hz; subst hz; have HB2 := hid hB; have HR2 : Hid (Room w2 (w.heap.size + 1) 67) := hid (Ob.room (heapB HE.out hB (by have := HZ.out; omega))); clear hB)
      | ((with_reducible refine uponStore (e := (finY m y).e) HR2.out ?_); intro w3 hO hU; have HO3 := hid hO; have HU3 := hid hU; clear hO hU)
      | fail)
    have HM3 : Hid (OM w3 w.heap.size m.m) := hid (HU3.out.ob (heapB HM.out HB2.out (by have := HZ.out; omega)) (by omega))
    have HB3 : Hid (Below w.heap.size w w3) := hid ((HB.out.trans (HB2.out.mono HB.out.size)).trans (HU3.out.below w.heap.size (Nat.le_succ _)))
    have HOK3 : Hid (PutOk s (finY m y)) := hid (fin_put HOK.out HFU.out HMS.out.1)
    have HYL3 : Hid ((finY m y).low B) := hid (fin_low HYL.out HML.out)
    have HYA3 : Hid ((finY m y).at w3) := hid (fin_at (HYA.out.on HB3.out) (HMA.out.on HB3.out))
    have HRI := hid HOK3.out.right
    clear HU3 HB2 HR2 HM HE HB kt kp
    have HV3 := hid (HV.out.on HB3.out)
    have HNI : Hid (∀ k, w.heap.size ≤ k → ¬ TI x b b2 k) := hid fun k hk hT => by have := HV.out.lt k (.inr hT); omega
    have HF : Hid (∀ W, Tch (TI x b b2) w3 W → W.cell? ⟨q, 0, none⟩ = some (ptr x)) := hid fun W hW => (cellAt' (hW.ob HV3.out.ob HV3.out.qi) 0).trans rfl
    refine rh_start (S := fun W => Tch (TI x b b2) w3 W) (n := 6) (listed := #[false, false, false, false, false, false]) (by kernel_rfl) rfl rfl ?_
    have HS0 : Hid (Tch (TI x b b2) w3 w3.drew) := hid (Tch.ofBelow (belowDrew (Below.refl _ w3)))
    have HVd := hid (HV3.out.on (belowDrew (Below.refl _ w3)))
    have HYd := hid (HYA3.out.on (belowDrew (Below.refl _ w3)))
    generalize w3.drew = wd3 at HS0 HVd HYd ⊢
    refine rh_takeS (i := 0) (o := ?o10) (v := ?v10) (listed' := ?l10) (a' := ?a10) ?hi10 (by kernel_rfl) (by kernel_rfl) (by kernel_rfl) ?hq10 ?hl10 ?hw10 ?hv10 ?ha10 HS0.out ?hh10
    case hi10 => (simp only [List.getElem?_toArray, List.getElem?_cons_zero]; try rfl)
    case hq10 => exact fun _ _ _ h => h
    case hl10 => (simp only [List.setIfInBounds_toArray, List.set_cons_zero]; try rfl)
    case hw10 => rfl
    case hv10 =>
      intro W hW
      have k0 := HF.out W hW
      go_simp
      try with_reducible rfl
    case ha10 => (simp only [Act.put, List.setIfInBounds_toArray, List.set_cons_succ, List.set_cons_zero]; try rfl)
    refine rh_takeS (i := 1) (o := ?o11) (v := ?v11) (listed' := ?l11) (a' := ?a11) ?hi11 (by kernel_rfl) (by kernel_rfl) (by kernel_rfl) ?hq11 ?hl11 ?hw11 ?hv11 ?ha11 HS0.out ?hh11
    case hi11 => (simp only [List.getElem?_toArray, List.getElem?_cons_succ, List.getElem?_cons_zero]; try rfl)
    case hq11 => exact fun _ _ _ h => h
    case hl11 => (simp only [List.setIfInBounds_toArray, List.set_cons_succ, List.set_cons_zero]; try rfl)
    case hw11 => rfl
    case hv11 =>
      intro W hW
      have k0 := HF.out W hW
      go_simp
      try with_reducible rfl
    case ha11 => (simp only [Act.put, List.setIfInBounds_toArray, List.set_cons_succ, List.set_cons_zero]; try rfl)
    refine rh_takeS (i := 2) (o := ?o12) (v := ?v12) (listed' := ?l12) (a' := ?a12) ?hi12 (by kernel_rfl) (by kernel_rfl) (by kernel_rfl) ?hq12 ?hl12 ?hw12 ?hv12 ?ha12 HS0.out ?hh12
    case hi12 => (simp only [List.getElem?_toArray, List.getElem?_cons_succ, List.getElem?_cons_zero]; try rfl)
    case hq12 => exact fun _ _ _ h => h
    case hl12 => (simp only [List.setIfInBounds_toArray, List.set_cons_succ, List.set_cons_zero]; try rfl)
    case hw12 => rfl
    case hv12 =>
      intro W hW
      have k0 := HF.out W hW
      go_simp
      try with_reducible rfl
    case ha12 => (simp only [Act.put, List.setIfInBounds_toArray, List.set_cons_succ, List.set_cons_zero]; try rfl)
    refine rh_takeS (i := 3) (o := ?o13) (v := ?v13) (listed' := ?l13) (a' := ?a13) ?hi13 (by kernel_rfl) (by kernel_rfl) (by kernel_rfl) ?hq13 ?hl13 ?hw13 ?hv13 ?ha13 HS0.out ?hh13
    case hi13 => (simp only [List.getElem?_toArray, List.getElem?_cons_succ, List.getElem?_cons_zero]; try rfl)
    case hq13 => exact fun _ _ _ h => h
    case hl13 => (simp only [List.setIfInBounds_toArray, List.set_cons_succ, List.set_cons_zero]; try rfl)
    case hw13 => rfl
    case hv13 =>
      intro W hW
      have k0 := HF.out W hW
      go_simp
      try with_reducible rfl
    case ha13 => (simp only [Act.put, List.setIfInBounds_toArray, List.set_cons_succ, List.set_cons_zero]; try rfl)
    refine rh_load (i := 4) (o := ?o14) (cs := (finY m y).e.list) (T := 67) (x := ?x14) (b := ?b14) (q := ?q14) (listed' := ?l14) (a' := ?a14) ?hi14 (by kernel_rfl) (by kernel_rfl) (by kernel_rfl) ?hq14 ?hl14 ?hg14 ?ho14 ?hx14 ?hc14 Tryz.underlying67 rfl (infoEc (finY m y).e) ?ha14 HS0.out ?hh14
    case hi14 => (simp only [List.getElem?_toArray, List.getElem?_cons_succ, List.getElem?_cons_zero]; try rfl)
    case hq14 => exact fun _ _ _ h => h
    case hl14 => (simp only [List.setIfInBounds_toArray, List.set_cons_succ, List.set_cons_zero]; try rfl)
    case hg14 => rfl
    case ho14 => rfl
    case hx14 => rfl
    case hc14 => exact fun W hW => Ob.range (T := 67) (e := (finY m y).e) (hW.ob HO3.out (HNI.out _ (Nat.le_succ _)))
    case ha14 => (show Act.put _ _ (Value.agg (finY m y).e.arr) = _); (simp only [Act.put, List.setIfInBounds_toArray, List.set_cons_succ, List.set_cons_zero]; try rfl)
    refine wpAnyH_ready (rs := [5]) (by kernel_rfl) (by simp) ?_
    refine rh_cons (i := 5) (o := ?o15) (listed' := ?l15) ?hi15 ?hl15 ?hg15 ?hh15 ?hs15
    case hi15 => (simp only [List.getElem?_toArray, List.getElem?_cons_succ, List.getElem?_cons_zero]; try rfl)
    case hl15 => (simp only [List.setIfInBounds_toArray, List.set_cons_succ, List.set_cons_zero]; try rfl)
    case hg15 => rfl
    case hs15 => exact AllReadyH.nil
    intro K hK
    go_simp
    refine (cPutV HVd.out HN.out HYd.out HYL3.out HOK3.out).mono ?_
    rintro z w4 ⟨rfl, hV4, hT4⟩
    have HS4 := hid (HS0.out.trans hT4)
    have HV4 := hid hV4
    clear hV4 hT4
    refine hK.out _ _ HS4.out ?_
    clear hK K
    refine wpAnyH_done (by kernel_rfl) ?_ _
    have HM4 : Hid (OM w4 w.heap.size m.m) := hid (HS4.out.ob HM3.out (HNI.out _ (Nat.le_refl _)))
    have HE4 : Hid (Ob w4 (w.heap.size + 1) 67 (finY m y).e) := hid (HS4.out.ob HO3.out (HNI.out _ (Nat.le_succ _)))
    have HT4 : Hid (Tch (TV q x b b2) w w4) := hid ((Tch.ofBelow HB3.out).trans (tch_i HS4.out))
    have HY4 : Hid ((finY m y).at w4) := hid (HV3.out.en (tch_i HS4.out) HYA3.out)
    clear HF HS0 HVd HYd HYA3 HV3 HO3 HM3 HB3 HS4 HOK3 HNI
    have hT := cThru HV4.out (by have := HNN.out; omega) (gd_put HGD.out HRI.out) (fun y hy => (HWT.out y hy).put) (by have := HBW.out; have := HT4.out.size; omega) HWL.out
    have HTH := hid hT
    clear hT
    go_wp2_with fail
    go_at_call 121
    refine HTH.out.mono ?_
    intro z w5 hp
    have HO := hid (OutF.from hp HT4.out)
    obtain ⟨vz, hvz⟩ : ∃ v, z = .returned v := by obtain ⟨v, _, _, e, _⟩ := hp; exact ⟨v, e⟩
    subst hvz
    clear hp
    go_wp2_with fail
    go_ret
    have hr : settleF nd s ws m y = thruF nd (putD s (finY m y)) ws := by unfold settleF; rw [if_neg HDN.out]
    rw [hr]
    exact HO.out
end Go.Proofs.YtlehcaacfgocaaaGreat
