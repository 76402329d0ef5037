import Derived.Test.YtlehcaacfgocaaaGreatVTakeZm
namespace Go.Proofs.YtlehcaacfgocaaaGreat
set_option linter.unusedVariables false
open Go.RowKit
open Go.Lib (hid)
theorem acc_low {B : Bd} {y : En} {m : Ms} (hy : y.low B) (hm : m.low B) : (accY y m).low B := ⟨by unfold accY resE; split <;> exact hy.1, hm.1, by unfold accY resE; split <;> exact hy.2.2⟩
set_option maxHeartbeats 32000000 in
set_option maxRecDepth 100000 in
theorem cAcceptV {w : World} {B : Bd} {q x b b2 N : Nat} {nd : Int} {s : Sd} {wv : Value} {ws : List Ms} (h : Vo w B q x b b2 N nd s wv ws) (hN : N ≤ 20000) {m : Ms} (hm : m.at w) (hms : m.short 1024) (hb : withinB m.m.bal 1048576 = true) (hf : fullB m.m.vt m.v = true) {y : En} (hy : y.at w) (hml : m.low B) (hyl : y.low B) (ok : PutOk s y) (hl : ¬ m.m.bal < y.e.pr) :
    Calls Tryz.prog 68 #[ptr q, .agg m.m.arr, .agg y.e.arr] w (OutD w B q x b b2 (N + 1) nd wv ws (acceptF nd s m y)) := by
  have HBW := hid hb
  have HLE := hid hl
  have HFU := hid hf
  clear hb hl hf
  have HB := hid (laid2_b w (.cells m.m.arr 50) (.cells y.e.arr 67))
  have HM : Hid (OM ((w.alloc (.cells m.m.arr 50)).alloc (.cells y.e.arr 67)) w.heap.size m.m) := hid (laid2_0 w _ _)
  have HE : Hid (Ob ((w.alloc (.cells m.m.arr 50)).alloc (.cells y.e.arr 67)) (w.heap.size + 1) 67 y.e) := hid (laid2_1 w _ _)
  have HV := hid h
  have HN := hid hN
  have HMA := hid hm
  have HYA := hid hy
  have HMS := hid hms
  have HOK := hid ok
  have HML := hid hml
  have HYL := hid hyl
  clear hml hyl
  have hzz : ((w.alloc (.cells m.m.arr 50)).alloc (.cells y.e.arr 67)).heap.size = w.heap.size + 2 := by simp
  have HZ := hid hzz
  clear h hN hm hy hms ok hzz
  go_enter Tryz.func68, Tryz.ntmps68
  by_cases h0 : m.m.bal = 0
  · have h0' : Hid (m.m.bal = 0) := hid h0
    clear h0
    have tok : Hid (0 = 0) := hid rfl
    go_wp2_with (first
      | (clear tok; (with_reducible refine opaqueW ((w.alloc (.cells m.m.arr 50)).alloc (.cells y.e.arr 67)) ?_); intro W0 hW; rw [← hW] at HB HM HE HZ; clear hW; have kb : W0.cell? ⟨w.heap.size, 3, none⟩ = some (.int .i64 m.m.bal) := HM.out.cell rfl; have kt : W0.cell? ⟨w.heap.size, 11, none⟩ = some (.int .i64 m.m.vt) := HM.out.cell rfl; have kp : W0.cell? ⟨w.heap.size, 12, none⟩ = some (.slice m.m.vp.a m.m.vp.n m.m.vp.c) := HM.out.cell rfl)
      | ((with_reducible refine loadC (x := ?lx1) (b := w.heap.size + 1) (T := 67) y.e ?lg1 ?lo1 ?lxx1 ?lc1 ?lh1); (case lg1 => rfl); (case lo1 => rfl); (case lxx1 => rfl); (case lc1 => exact HE.out))
      | (go_at_call 119; refine (cAccept (HMA.out.on HB.out).1 HMS.out.1 (times_ok HOK.out.right)).mono ?_; rintro z w2 ⟨hz, hB⟩; rw [acc_eq0 h0'.out] at hz; subst hz; have HB2 := hid hB; have HR2 : Hid (Room w2 (w.heap.size + 1) 67) := hid (Ob.room (heapB HE.out hB (by have := HZ.out; omega))); clear hB)
      | ((with_reducible refine uponStore (e := y.e) HR2.out ?_); intro w3 hO hU; have HO3 := hid hO; have HU3 := hid hU; clear hO hU)
      | fail)
    have HB3 : Hid (Below w.heap.size w w3) := hid ((HB.out.trans (HB2.out.mono HB.out.size)).trans (HU3.out.below w.heap.size (Nat.le_succ _)))
    go_ret
    have hr : acceptF nd s m y = (s, []) := by unfold acceptF; rw [if_pos h0'.out]
    rw [hr]
    exact OutD.none rfl ((HV.out.on HB3.out).mono (Nat.le_succ N)) (Tch.ofBelow HB3.out)
  · have h0' : Hid (m.m.bal ≠ 0) := hid h0
    clear h0
    have tok : Hid (0 = 0) := hid rfl
    go_wp2_with (first
      | (clear tok; (with_reducible refine opaqueW ((w.alloc (.cells m.m.arr 50)).alloc (.cells y.e.arr 67)) ?_); intro W0 hW; rw [← hW] at HB HM HE HZ; clear hW; have kb : W0.cell? ⟨w.heap.size, 3, none⟩ = some (.int .i64 m.m.bal) := HM.out.cell rfl; have kt : W0.cell? ⟨w.heap.size, 11, none⟩ = some (.int .i64 m.m.vt) := HM.out.cell rfl; have kp : W0.cell? ⟨w.heap.size, 12, none⟩ = some (.slice m.m.vp.a m.m.vp.n m.m.vp.c) := HM.out.cell rfl)
      | ((with_reducible refine loadC (x := ?lx3) (b := w.heap.size + 1) (T := 67) y.e ?lg3 ?lo3 ?lxx3 ?lc3 ?lh3); (case lg3 => rfl); (case lo3 => rfl); (case lxx3 => rfl); (case lc3 => exact HE.out))
      | (go_at_call 119; refine (cAccept (HMA.out.on HB.out).1 HMS.out.1 (times_ok HOK.out.right)).mono ?_; rintro z w2 ⟨hz, hB⟩; rw [acc_eq HBW.out HLE.out h0'.out HFU.out] at hz; subst hz; have HB2 := hid hB; have HR2 : Hid (Room w2 (w.heap.size + 1) 67) := hid (Ob.room (heapB HE.out hB (by have := HZ.out; omega))); clear hB)
      | ((with_reducible refine uponStore (e := (accY y m).e) HR2.out ?_); intro w3 hO hU; have HO3 := hid hO; have HU3 := hid hU; clear hO hU)
      | fail)
    have HM3 : Hid (OM w3 w.heap.size m.m) := hid (HU3.out.ob (heapB HM.out HB2.out (by have := HZ.out; omega)) (by omega))
    have HB3 : Hid (Below w.heap.size w w3) := hid ((HB.out.trans (HB2.out.mono HB.out.size)).trans (HU3.out.below w.heap.size (Nat.le_succ _)))
    have HOK3 := hid (acc_put HOK.out HBW.out h0'.out HFU.out HMS.out.1)
    have HYL3 : Hid ((accY y m).low B) := hid (acc_low HYL.out HML.out)
    have HYA3 : Hid ((accY y m).at w3) := hid (acc_sl (HYA.out.on HB3.out) (HMA.out.on HB3.out))
    clear HU3 HB2 HR2 HM HE HB kb kt kp
    have HV3 := hid (HV.out.on HB3.out)
    have HNI : Hid (∀ k, w.heap.size ≤ k → ¬ TI x b b2 k) := hid fun k hk hT => by have := HV.out.lt k (.inr hT); omega
    have HF : Hid (∀ W, Tch (TI x b b2) w3 W → W.cell? ⟨q, 0, none⟩ = some (ptr x)) := hid fun W hW => (cellAt' (hW.ob HV3.out.ob HV3.out.qi) 0).trans rfl
    refine rh_start (S := fun W => Tch (TI x b b2) w3 W) (n := 6) (listed := #[false, false, false, false, false, false]) (by kernel_rfl) rfl rfl ?_
    have HS0 : Hid (Tch (TI x b b2) w3 w3.drew) := hid (Tch.ofBelow (belowDrew (Below.refl _ w3)))
    have HVd := hid (HV3.out.on (belowDrew (Below.refl _ w3)))
    have HYd := hid (HYA3.out.on (belowDrew (Below.refl _ w3)))
    generalize w3.drew = wd3 at HS0 HVd HYd ⊢
    refine rh_takeS (i := 0) (o := ?o4) (v := ?v4) (listed' := ?l4) (a' := ?a4) ?hi4 (by kernel_rfl) (by kernel_rfl) (by kernel_rfl) ?hq4 ?hl4 ?hw4 ?hv4 ?ha4 HS0.out ?hh4
    case hi4 => (simp only [List.getElem?_toArray, List.getElem?_cons_zero]; try rfl)
    case hq4 => exact fun _ _ _ h => h
    case hl4 => (simp only [List.setIfInBounds_toArray, List.set_cons_zero]; try rfl)
    case hw4 => rfl
    case hv4 =>
      intro W hW
      have k0 := HF.out W hW
      go_simp
      try with_reducible rfl
    case ha4 => (simp only [Act.put, List.setIfInBounds_toArray, List.set_cons_succ, List.set_cons_zero]; try rfl)
    refine rh_takeS (i := 1) (o := ?o5) (v := ?v5) (listed' := ?l5) (a' := ?a5) ?hi5 (by kernel_rfl) (by kernel_rfl) (by kernel_rfl) ?hq5 ?hl5 ?hw5 ?hv5 ?ha5 HS0.out ?hh5
    case hi5 => (simp only [List.getElem?_toArray, List.getElem?_cons_succ, List.getElem?_cons_zero]; try rfl)
    case hq5 => exact fun _ _ _ h => h
    case hl5 => (simp only [List.setIfInBounds_toArray, List.set_cons_succ, List.set_cons_zero]; try rfl)
    case hw5 => rfl
    case hv5 =>
      intro W hW
      have k0 := HF.out W hW
      go_simp
      try with_reducible rfl
    case ha5 => (simp only [Act.put, List.setIfInBounds_toArray, List.set_cons_succ, List.set_cons_zero]; try rfl)
    refine rh_takeS (i := 2) (o := ?o6) (v := ?v6) (listed' := ?l6) (a' := ?a6) ?hi6 (by kernel_rfl) (by kernel_rfl) (by kernel_rfl) ?hq6 ?hl6 ?hw6 ?hv6 ?ha6 HS0.out ?hh6
    case hi6 => (simp only [List.getElem?_toArray, List.getElem?_cons_succ, List.getElem?_cons_zero]; try rfl)
    case hq6 => exact fun _ _ _ h => h
    case hl6 => (simp only [List.setIfInBounds_toArray, List.set_cons_succ, List.set_cons_zero]; try rfl)
    case hw6 => rfl
    case hv6 =>
      intro W hW
      have k0 := HF.out W hW
      go_simp
      try with_reducible rfl
    case ha6 => (simp only [Act.put, List.setIfInBounds_toArray, List.set_cons_succ, List.set_cons_zero]; try rfl)
    refine rh_takeS (i := 3) (o := ?o7) (v := ?v7) (listed' := ?l7) (a' := ?a7) ?hi7 (by kernel_rfl) (by kernel_rfl) (by kernel_rfl) ?hq7 ?hl7 ?hw7 ?hv7 ?ha7 HS0.out ?hh7
    case hi7 => (simp only [List.getElem?_toArray, List.getElem?_cons_succ, List.getElem?_cons_zero]; try rfl)
    case hq7 => exact fun _ _ _ h => h
    case hl7 => (simp only [List.setIfInBounds_toArray, List.set_cons_succ, List.set_cons_zero]; try rfl)
    case hw7 => rfl
    case hv7 =>
      intro W hW
      have k0 := HF.out W hW
      go_simp
      try with_reducible rfl
    case ha7 => (simp only [Act.put, List.setIfInBounds_toArray, List.set_cons_succ, List.set_cons_zero]; try rfl)
    refine rh_load (i := 4) (o := ?o8) (cs := (accY y m).e.list) (T := 67) (x := ?x8) (b := ?b8) (q := ?q8) (listed' := ?l8) (a' := ?a8) ?hi8 (by kernel_rfl) (by kernel_rfl) (by kernel_rfl) ?hq8 ?hl8 ?hg8 ?ho8 ?hx8 ?hc8 Tryz.underlying67 rfl (infoEc (accY y m).e) ?ha8 HS0.out ?hh8
    case hi8 => (simp only [List.getElem?_toArray, List.getElem?_cons_succ, List.getElem?_cons_zero]; try rfl)
    case hq8 => exact fun _ _ _ h => h
    case hl8 => (simp only [List.setIfInBounds_toArray, List.set_cons_succ, List.set_cons_zero]; try rfl)
    case hg8 => rfl
    case ho8 => rfl
    case hx8 => rfl
    case hc8 => exact fun W hW => Ob.range (T := 67) (e := (accY y m).e) (hW.ob HO3.out (HNI.out _ (Nat.le_succ _)))
    case ha8 => (show Act.put _ _ (Value.agg (accY y m).e.arr) = _); (simp only [Act.put, List.setIfInBounds_toArray, List.set_cons_succ, List.set_cons_zero]; try rfl)
    refine wpAnyH_ready (rs := [5]) (by kernel_rfl) (by simp) ?_
    refine rh_cons (i := 5) (o := ?o9) (listed' := ?l9) ?hi9 ?hl9 ?hg9 ?hh9 ?hs9
    case hi9 => (simp only [List.getElem?_toArray, List.getElem?_cons_succ, List.getElem?_cons_zero]; try rfl)
    case hl9 => (simp only [List.setIfInBounds_toArray, List.set_cons_succ, List.set_cons_zero]; try rfl)
    case hg9 => rfl
    case hs9 => exact AllReadyH.nil
    intro K hK
    go_simp
    refine (cPutV HVd.out HN.out HYd.out HYL3.out HOK3.out).mono ?_
    rintro z w4 ⟨rfl, hV4, hT4⟩
    have HS4 := hid (HS0.out.trans hT4)
    have HV4 := hid hV4
    clear hV4 hT4
    refine hK.out _ _ HS4.out ?_
    clear hK K
    refine wpAnyH_done (by kernel_rfl) ?_ _
    have HM4 : Hid (OM w4 w.heap.size m.m) := hid (HS4.out.ob HM3.out (HNI.out _ (Nat.le_refl _)))
    have HE4 : Hid (Ob w4 (w.heap.size + 1) 67 (accY y m).e) := hid (HS4.out.ob HO3.out (HNI.out _ (Nat.le_succ _)))
    have HT4 : Hid (Tch (TV q x b b2) w w4) := hid ((Tch.ofBelow HB3.out).trans (tch_i HS4.out))
    have HY4 : Hid ((accY y m).at w4) := hid (HV3.out.en (tch_i HS4.out) HYA3.out)
    clear HF HS0 HVd HYd HYA3 HV3 HO3 HM3 HB3 HS4 HOK3 HNI
    go_wp2_with (first
      | ((with_reducible refine loadM (x := ?lx10) (b := w.heap.size) m.m ?lg10 ?lo10 ?lxx10 ?lc10 ?lh10); (case lg10 => rfl); (case lo10 => rfl); (case lxx10 => rfl); (case lc10 => exact HM4.out))
      | ((with_reducible refine wpList_buildSo 6 ?bg2 ?bo2 ?bh2); (case bg2 => rfl); (case bo2 => rfl))
      | (go_at_call 73; refine (cBackV HV4.out m.m { zM with so := 6 }).mono ?_; intro z wz hp; have HO := hid (OutD.back (m := m) [] [] [] hp (HV4.out) HT4.out (nilF _ _) (nilF _ _) (nilF _ _)); obtain ⟨vz, hvz⟩ : ∃ v, z = .returned v := (by obtain ⟨v, e, _⟩ := hp; exact ⟨v, e⟩); subst hvz; clear hp)
      | fail)
    go_ret
    have hr : acceptF nd s m y = (putD s (accY y m), [backA nd m { zA with so := 6 }]) := by unfold acceptF; rw [if_neg h0'.out]
    rw [hr]
    exact HO.out
end Go.Proofs.YtlehcaacfgocaaaGreat
