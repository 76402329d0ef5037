import Derived.Test.YtlehcaacfgocaaaGreatVWaitVZm
import Derived.Test.YtlehcaacfgocaaaGreatVAccZm
namespace Go.Proofs.YtlehcaacfgocaaaGreat
set_option linter.unusedVariables false
open Go.RowKit
open Go.Lib (hid)
def propY (m : Ms) (y : En) : En := if 0 < m.m.bal ∧ m.m.fl = false then freeY (promY y m.m.bal) else promY y m.m.bal
def proposeF (nd : Int) (s : Sd) (ws : List Ms) (m : Ms) (y : En) : Sd × List Ms × List An :=
  ((decideF nd (putD s (propY m y)) m (propY m y)).1, if (decideF nd (putD s (propY m y)) m (propY m y)).2.length = 0 then waitF ws m else ws, (decideF nd (putD s (propY m y)) m (propY m y)).2)
abbrev TW (q x b b2 : Nat) (wv : Value) : Nat → Prop := fun k => TV q x b b2 k ∨ wv.ownBlock = some k
def OutF (w : World) (B : Bd) (q x b b2 N : Nat) (nd : Int) (wv : Value) (r : Sd × List Ms × List An) (e : Ending) (w' : World) : Prop :=
  ∃ v ls wv', e = .returned v ∧ SlM w' v (mgs ls) ∧ ((v = .slice none 0 0 ∧ ls = []) ∨ ∃ g cap, v = .slice (some g) ls.length cap) ∧ (∀ a ∈ ls, a.atF B w') ∧ ls.map Ms.an = r.2.2 ∧ Vo w' B q x b b2 N nd r.1 wv' r.2.1 ∧ Tch (TW q x b b2 wv) w w' ∧ Fr w.heap.size wv wv' ∧ (∀ k, wv'.ownBlock = some k → wv.ownBlock = some k ∨ v.ownBlock ≠ some k ∨ ls = []) ∧ (ls = [] ∨ MsgT w' v)
theorem OutD.toF {w w' : World} {B : Bd} {q x b b2 N : Nat} {nd : Int} {wv : Value} {ws : List Ms} {r : Sd × List An} {e : Ending} (h : OutD w B q x b b2 N nd wv ws r e w') : OutF w B q x b b2 N nd wv (r.1, ws, r.2) e w' := by
  obtain ⟨v, ls, h1, h2, h3, h4, h5, h6, h7⟩ := h
  exact ⟨v, ls, wv, h1, h2, h3, h4, h5, h6, h7.1.mono fun k hk => .inl hk, fun k hk => .inl hk, fun k hk => .inl hk, .inr h7.2⟩
theorem OutF.mono {w w' : World} {B : Bd} {q x b b2 N N' : Nat} {nd : Int} {wv : Value} {r : Sd × List Ms × List An} {e : Ending} (h : OutF w B q x b b2 N nd wv r e w') (hN : N ≤ N') : OutF w B q x b b2 N' nd wv r e w' := by
  obtain ⟨v, ls, wv', h1, h2, h3, h4, h5, h6, h7, h8⟩ := h
  exact ⟨v, ls, wv', h1, h2, h3, h4, h5, h6.mono hN, h7, h8⟩
theorem OutF.from {w w1 w' : World} {B : Bd} {q x b b2 N : Nat} {nd : Int} {wv : Value} {r : Sd × List Ms × List An} {e : Ending} (h : OutF w1 B q x b b2 N nd wv r e w') (ht : Tch (TV q x b b2) w w1) : OutF w B q x b b2 N nd wv r e w' := by
  obtain ⟨v, ls, wv', h1, h2, h3, h4, h5, h6, h7, h8⟩ := h
  exact ⟨v, ls, wv', h1, h2, h3, h4, h5, h6, (ht.mono fun k hk => .inl hk).trans h7, fun k hk => by
    rcases h8.1 k hk with e | e
    · exact .inl e
    · exact .inr (Nat.le_trans ht.size e), h8.2⟩
theorem prop_put {s : Sd} {y : En} {m : Ms} (h : PutOk s y) (hb : withinB m.m.bal 1048576 = true) : PutOk s (propY m y) := by
  unfold propY; split
  · exact free_put (prom_put h hb)
  · exact prom_put h hb
theorem prop_at {w : World} {y : En} {m : Ms} (h : y.at w) : (propY m y).at w := by unfold propY; split <;> exact h
theorem look_put (s : Sd) (y : En) : lookG En.id (putD s y).xs y.id = some y := by unfold putD; rw [look_snoc, if_pos rfl]
theorem put_after {s : Sd} {y : En} (h : PutOk s y) : PutOk (putD s y) y := ⟨h.right, h.short, fun _ => by rw [(lookE_some (look_put s y)).1]⟩
theorem prop_low {B : Bd} {y : En} {m : Ms} (h : y.low B) : (propY m y).low B := by unfold propY; split <;> exact h
theorem slice_of {v : Value} {ls : List Ms} (h : (v = .slice none 0 0 ∧ ls = []) ∨ ∃ g cap, v = .slice (some g) ls.length cap) : ∃ (a : Option Addr) (c n : Nat), v = .slice a n c ∧ n = ls.length := by
  rcases h with ⟨rfl, rfl⟩ | ⟨g, cap, rfl⟩
  · exact ⟨_, _, _, rfl, rfl⟩
  · exact ⟨_, _, _, rfl, rfl⟩
theorem nil_shape {v : Value} {ls : List Ms} (h : (v = .slice none 0 0 ∧ ls = []) ∨ ∃ g cap, v = .slice (some g) ls.length cap) (h0 : ls = []) : (v = .slice none 0 0 ∧ ([] : List Ms) = []) ∨ ∃ g cap, v = .slice (some g) ([] : List Ms).length cap := by
  subst h0; exact h
theorem slM_nil {w : World} {v : Value} {ls : List Ms} (h : (v = .slice none 0 0 ∧ ls = []) ∨ ∃ g cap, v = .slice (some g) ls.length cap) (h0 : ls = []) : SlM w v (mgs []) := by
  subst h0
  rcases h with ⟨rfl, _⟩ | ⟨g, cap, rfl⟩
  · exact SlG.nil _ _ _
  · exact ⟨0, 0, cap, some g, rfl, fun h => absurd h (by simp [mgs]), fun j x h => by simp [mgs] at h, fun h => absurd h (by simp [mgs])⟩
set_option maxHeartbeats 32000000 in
set_option maxRecDepth 100000 in
theorem cProposeV {w : World} {B : Bd} {q x b b2 N : Nat} {nd : Int} {s : Sd} {wv : Value} {ws : List Ms} (h : Vo w B q x b b2 N nd s wv ws) (hN : N < 20000) {m : Ms} (hm : m.at w) (hms : m.short 1024) (hl : ws.length ≤ 1000) (hBw : B.top ≤ w.heap.size) (hb : withinB m.m.bal 1048576 = true) (hf : fullB m.m.vt m.v = true) {y : En} (hy : y.at w) (hml : m.low B) (hyl : y.low B) (ok : PutOk s y) (hle : ¬ m.m.bal < y.e.pr) :
    Calls Tryz.prog 66 #[ptr q, .agg m.m.arr, .agg y.e.arr] w (OutF w B q x b b2 (N + 2) nd wv (proposeF nd s ws m y)) := by
  have HWL := hid hl
  have HBWW := hid hBw
  have HBW := hid hb
  have HLE := hid hle
  have HFU := hid hf
  have HNL := hid hN
  replace hN := Nat.le_of_lt hN
  clear hl hBw hb hle hf
  have HB := hid (laid2_b w (.cells m.m.arr 50) (.cells y.e.arr 67))
  have HM : Hid (OM ((w.alloc (.cells m.m.arr 50)).alloc (.cells y.e.arr 67)) w.heap.size m.m) := hid (laid2_0 w _ _)
  have HE : Hid (Ob ((w.alloc (.cells m.m.arr 50)).alloc (.cells y.e.arr 67)) (w.heap.size + 1) 67 y.e) := hid (laid2_1 w _ _)
  have HV := hid h
  have HN := hid hN
  have HMA := hid hm
  have HYA := hid hy
  have HMS := hid hms
  have HOK := hid ok
  have HML := hid hml
  have HYL := hid hyl
  clear hml hyl
  have hzz : ((w.alloc (.cells m.m.arr 50)).alloc (.cells y.e.arr 67)).heap.size = w.heap.size + 2 := by simp
  have HZ := hid hzz
  clear h hN hm hy hms ok hzz
  go_enter Tryz.func66, Tryz.ntmps66
  obtain ⟨fl, hfl⟩ : ∃ z, z = m.m.fl := ⟨_, rfl⟩
  have HFL := hid hfl
  clear hfl
  have tok : Hid (0 = 0) := hid rfl
  by_cases h1 : 0 < m.m.bal
  · have HB1' := hid h1
    have hbz : ((0 : Int) < m.m.bal) := h1
    rcases fl with _ | _
    · have HH1 := hid h1
      clear h1
      go_wp2_with (first
        | (clear tok; (with_reducible refine opaqueW ((w.alloc (.cells m.m.arr 50)).alloc (.cells y.e.arr 67)) ?_); intro W0 hW; rw [← hW] at HB HM HE HZ; clear hW; have kb : W0.cell? ⟨w.heap.size, 3, none⟩ = some (.int .i64 m.m.bal) := HM.out.cell rfl)
        | ((with_reducible refine loadC (x := ?lx1) (b := w.heap.size + 1) (T := 67) y.e ?lg1 ?lo1 ?lxx1 ?lc1 ?lh1); (case lg1 => rfl); (case lo1 => rfl); (case lxx1 => rfl); (case lc1 => exact HE.out))
        | (go_at_call 112; refine (cPromise y.e m.m.bal _).mono ?_; rintro z w2 ⟨hz, hB⟩; rw [prom_eq HBW.out HLE.out] at hz; subst hz; have HB2 := hid hB; have HR2 : Hid (Room w2 (w.heap.size + 1) 67) := hid (Ob.room (heapB HE.out hB (by have := HZ.out; omega))); have HMv : Hid (OM w2 w.heap.size m.m) := hid (heapB HM.out hB (by have := HZ.out; omega)); clear hB)
        | ((with_reducible refine uponStore (e := (promY y m.m.bal).e) HR2.out ?_); intro w3 hO hU; have HO3 := hid hO; have HU3 := hid hU; have HMw : Hid (OM w3 w.heap.size m.m) := hid (hU.ob HMv.out (by omega)); have kb3 : w3.cell? ⟨w.heap.size, 3, none⟩ = some (.int .i64 m.m.bal) := HMw.out.cell rfl; have kl3 : w3.cell? ⟨w.heap.size, 13, none⟩ = some (.bool false) := HMw.out.cell (j := 13) (by rw [show m.m.list[13]? = some (.bool m.m.fl) from rfl, ← HFL.out]); clear hO hU)
        | ((with_reducible refine loadC (x := ?lx2) (b := w.heap.size + 1) (T := 67) (promY y m.m.bal).e ?lg2 ?lo2 ?lxx2 ?lc2 ?lh2); (case lg2 => rfl); (case lo2 => rfl); (case lxx2 => rfl); (case lc2 => exact HO3.out))
        | (go_at_call 113; refine (cFree (promY y m.m.bal).e _).mono ?_; rintro z w6 ⟨hz, hB⟩; have hz' : z = .returned (.agg (freeY (promY y m.m.bal)).e.arr) := hz; clear hz; subst hz'; have HB6 := hid hB; have HR6 : Hid (Room w6 (w.heap.size + 1) 67) := hid (Ob.room (heapB HO3.out hB (Array.getElem?_eq_some_iff.1 HO3.out).1)); have HMx : Hid (OM w6 w.heap.size m.m) := hid (heapB HMw.out hB (Array.getElem?_eq_some_iff.1 HMw.out).1); clear hB)
        | ((with_reducible refine uponStore (e := (freeY (promY y m.m.bal)).e) HR6.out ?_); intro w7 hO hU; have HO7 := hid hO; have HU7 := hid hU; have HMy : Hid (OM w7 w.heap.size m.m) := hid (hU.ob HMx.out (by omega)); clear hO hU)
        | fail)
      have HB3 : Hid (Below w.heap.size w w3) := hid ((HB.out.trans (HB2.out.mono HB.out.size)).trans (HU3.out.below w.heap.size (Nat.le_succ _)))
      have HB7 : Hid (Below w.heap.size w w7) := hid ((HB3.out.trans (HB6.out.mono HB3.out.size)).trans (HU7.out.below w.heap.size (Nat.le_succ _)))
      clear HB3 HO3 HMw HU3 HB2 HR2 HMv HB6 HR6 HMx HU7 HM HE HB kb kb3 kl3
      have HB3 := HB7
      have HO3 := HO7
      have HM3 := HMy
      clear HB7 HO7 HMy
      skip
      have HYE : Hid (propY m y = (freeY (promY y m.m.bal))) := hid (by unfold propY; rw [if_pos ⟨HH1.out, by rw [← HFL.out]⟩])
      have HOK3 : Hid (PutOk s (freeY (promY y m.m.bal))) := hid (by have := prop_put (m := m) HOK.out HBW.out; rwa [HYE.out] at this)
      have HYA3 : Hid ((freeY (promY y m.m.bal)).at w7) := hid (by have := prop_at (m := m) (HYA.out.on HB3.out); rwa [HYE.out] at this)
      have HYL3 : Hid ((freeY (promY y m.m.bal)).low B) := hid (by have := prop_low (m := m) HYL.out; rwa [HYE.out] at this)
      have HOKA : Hid (PutOk (putD s (freeY (promY y m.m.bal))) (freeY (promY y m.m.bal))) := hid (put_after HOK3.out)
      have HV3 := hid (HV.out.on HB3.out)
      have HNI : Hid (∀ k, w.heap.size ≤ k → ¬ TI x b b2 k) := hid fun k hk hT => by have := HV.out.lt k (.inr hT); omega
      have HF : Hid (∀ W, Tch (TI x b b2) w7 W → W.cell? ⟨q, 0, none⟩ = some (ptr x)) := hid fun W hW => (cellAt' (hW.ob HV3.out.ob HV3.out.qi) 0).trans rfl
      refine rh_start (S := fun W => Tch (TI x b b2) w7 W) (n := 6) (listed := #[false, false, false, false, false, false]) (by kernel_rfl) rfl rfl ?_
      have HS0 : Hid (Tch (TI x b b2) w7 w7.drew) := hid (Tch.ofBelow (belowDrew (Below.refl _ w7)))
      have HVd := hid (HV3.out.on (belowDrew (Below.refl _ w7)))
      have HYd := hid (HYA3.out.on (belowDrew (Below.refl _ w7)))
      generalize w7.drew = wd3 at HS0 HVd HYd ⊢
      refine rh_takeS (i := 0) (o := ?o3) (v := ?v3) (listed' := ?l3) (a' := ?a3) ?hi3 (by kernel_rfl) (by kernel_rfl) (by kernel_rfl) ?hq3 ?hl3 ?hw7 ?hv3 ?ha3 HS0.out ?hh3
      case hi3 => (simp only [List.getElem?_toArray, List.getElem?_cons_zero]; try rfl)
      case hq3 => exact fun _ _ _ h => h
      case hl3 => (simp only [List.setIfInBounds_toArray, List.set_cons_zero]; try rfl)
      case hw7 => rfl
      case hv3 =>
        intro W hW
        have k0 := HF.out W hW
        go_simp
        try with_reducible rfl
      case ha3 => (simp only [Act.put, List.setIfInBounds_toArray, List.set_cons_succ, List.set_cons_zero]; try rfl)
      refine rh_takeS (i := 1) (o := ?o4) (v := ?v4) (listed' := ?l4) (a' := ?a4) ?hi4 (by kernel_rfl) (by kernel_rfl) (by kernel_rfl) ?hq4 ?hl4 ?hw4 ?hv4 ?ha4 HS0.out ?hh4
      case hi4 => (simp only [List.getElem?_toArray, List.getElem?_cons_succ, List.getElem?_cons_zero]; try rfl)
      case hq4 => exact fun _ _ _ h => h
      case hl4 => (simp only [List.setIfInBounds_toArray, List.set_cons_succ, List.set_cons_zero]; try rfl)
      case hw4 => rfl
      case hv4 =>
        intro W hW
        have k0 := HF.out W hW
        go_simp
        try with_reducible rfl
      case ha4 => (simp only [Act.put, List.setIfInBounds_toArray, List.set_cons_succ, List.set_cons_zero]; try rfl)
      refine rh_takeS (i := 2) (o := ?o5) (v := ?v5) (listed' := ?l5) (a' := ?a5) ?hi5 (by kernel_rfl) (by kernel_rfl) (by kernel_rfl) ?hq5 ?hl5 ?hw5 ?hv5 ?ha5 HS0.out ?hh5
      case hi5 => (simp only [List.getElem?_toArray, List.getElem?_cons_succ, List.getElem?_cons_zero]; try rfl)
      case hq5 => exact fun _ _ _ h => h
      case hl5 => (simp only [List.setIfInBounds_toArray, List.set_cons_succ, List.set_cons_zero]; try rfl)
      case hw5 => rfl
      case hv5 =>
        intro W hW
        have k0 := HF.out W hW
        go_simp
        try with_reducible rfl
      case ha5 => (simp only [Act.put, List.setIfInBounds_toArray, List.set_cons_succ, List.set_cons_zero]; try rfl)
      refine rh_takeS (i := 3) (o := ?o6) (v := ?v6) (listed' := ?l6) (a' := ?a6) ?hi6 (by kernel_rfl) (by kernel_rfl) (by kernel_rfl) ?hq6 ?hl6 ?hw6 ?hv6 ?ha6 HS0.out ?hh6
      case hi6 => (simp only [List.getElem?_toArray, List.getElem?_cons_succ, List.getElem?_cons_zero]; try rfl)
      case hq6 => exact fun _ _ _ h => h
      case hl6 => (simp only [List.setIfInBounds_toArray, List.set_cons_succ, List.set_cons_zero]; try rfl)
      case hw6 => rfl
      case hv6 =>
        intro W hW
        have k0 := HF.out W hW
        go_simp
        try with_reducible rfl
      case ha6 => (simp only [Act.put, List.setIfInBounds_toArray, List.set_cons_succ, List.set_cons_zero]; try rfl)
      refine rh_load (i := 4) (o := ?o7) (cs := (freeY (promY y m.m.bal)).e.list) (T := 67) (x := ?x7) (b := ?b7) (q := ?q7) (listed' := ?l7) (a' := ?a7) ?hi7 (by kernel_rfl) (by kernel_rfl) (by kernel_rfl) ?hq7 ?hl7 ?hg7 ?ho7 ?hx7 ?hc7 Tryz.underlying67 rfl (infoEc (freeY (promY y m.m.bal)).e) ?ha7 HS0.out ?hh7
      case hi7 => (simp only [List.getElem?_toArray, List.getElem?_cons_succ, List.getElem?_cons_zero]; try rfl)
      case hq7 => exact fun _ _ _ h => h
      case hl7 => (simp only [List.setIfInBounds_toArray, List.set_cons_succ, List.set_cons_zero]; try rfl)
      case hg7 => rfl
      case ho7 => rfl
      case hx7 => rfl
      case hc7 => exact fun W hW => Ob.range (T := 67) (e := (freeY (promY y m.m.bal)).e) (hW.ob HO3.out (HNI.out _ (Nat.le_succ _)))
      case ha7 => (show Act.put _ _ (Value.agg (freeY (promY y m.m.bal)).e.arr) = _); (simp only [Act.put, List.setIfInBounds_toArray, List.set_cons_succ, List.set_cons_zero]; try rfl)
      refine wpAnyH_ready (rs := [5]) (by kernel_rfl) (by simp) ?_
      refine rh_cons (i := 5) (o := ?o8) (listed' := ?l8) ?hi8 ?hl8 ?hg8 ?hh8 ?hs8
      case hi8 => (simp only [List.getElem?_toArray, List.getElem?_cons_succ, List.getElem?_cons_zero]; try rfl)
      case hl8 => (simp only [List.setIfInBounds_toArray, List.set_cons_succ, List.set_cons_zero]; try rfl)
      case hg8 => rfl
      case hs8 => exact AllReadyH.nil
      intro K hK
      go_simp
      refine (cPutV HVd.out HN.out HYd.out HYL3.out HOK3.out).mono ?_
      rintro z w4 ⟨rfl, hV4, hT4⟩
      have HS4 := hid (HS0.out.trans hT4)
      have HV4 := hid hV4
      clear hV4 hT4
      refine hK.out _ _ HS4.out ?_
      clear hK K
      refine wpAnyH_done (by kernel_rfl) ?_ _
      have HM4 : Hid (OM w4 w.heap.size m.m) := hid (HS4.out.ob HM3.out (HNI.out _ (Nat.le_refl _)))
      have HE4 : Hid (Ob w4 (w.heap.size + 1) 67 (freeY (promY y m.m.bal)).e) := hid (HS4.out.ob HO3.out (HNI.out _ (Nat.le_succ _)))
      have HT4 : Hid (Tch (TV q x b b2) w w4) := hid ((Tch.ofBelow HB3.out).trans (tch_i HS4.out))
      have HY4 : Hid ((freeY (promY y m.m.bal)).at w4) := hid (HV3.out.en (tch_i HS4.out) HYA3.out)
      clear HF HS0 HVd HYd HYA3 HV3 HO3 HM3 HB3 HS4 HOK3 HNI
      have hD := cDecide HV4.out (by have := HNL.out; omega) (HMA.out.tch (Tch.mono HT4.out (fun k hk => hk)) HV.out.nocell) HMS.out HFU.out HY4.out HML.out HYL3.out HOKA.out
      have HD := hid hD
      clear hD
      obtain ⟨r, hr⟩ : ∃ r, r = decideF nd (putD s (freeY (promY y m.m.bal))) m (freeY (promY y m.m.bal)) := ⟨_, rfl⟩
      rw [← hr] at HD
      have HR : Hid (proposeF nd s ws m y = (r.1, if r.2.length = 0 then waitF ws m else ws, r.2)) := hid (by unfold proposeF; rw [HYE.out, ← hr])
      clear hr HYE
      have HNV : Hid (∀ k, w.heap.size ≤ k → ¬ TV q x b b2 k) := hid fun k hk hT => by have := HV.out.lt k hT; omega
      go_wp2_with (first
        | ((with_reducible refine loadM (x := ?lx9) (b := w.heap.size) m.m ?lg9 ?lo9 ?lxx9 ?lc9 ?lh9); (case lg9 => rfl); (case lo9 => rfl); (case lxx9 => rfl); (case lc9 => exact HM4.out))
        | ((with_reducible refine loadC (x := ?lx10) (b := w.heap.size + 1) (T := 67) (freeY (promY y m.m.bal)).e ?lg10 ?lo10 ?lxx10 ?lc10 ?lh10); (case lg10 => rfl); (case lo10 => rfl); (case lxx10 => rfl); (case lc10 => exact HE4.out))
        | fail)
      go_at_call 115
      refine HD.out.mono ?_
      intro z w5 hp
      obtain ⟨v5, ls, rfl, hs5, hsh5, hat5, han5, hV5, hT5, hMT5⟩ := hp; have HMT5 := hid hMT5; clear hMT5
      obtain ⟨na, nc, nn, rfl, hnn⟩ := slice_of hsh5
      have HS5 := hid hs5
      have HSH5 := hid hsh5
      have HAT5 := hid hat5
      have HAN5 := hid han5
      have HV5 := hid hV5
      have HT5 := hid (HT4.out.trans hT5)
      have HM5 : Hid (OM w5 w.heap.size m.m) := hid (hT5.ob HM4.out (HNV.out _ (Nat.le_refl _)))
      have HNN := hid hnn
      clear hs5 hsh5 hat5 han5 hV5 hT5 hnn
      by_cases h0 : ls = []
      · have hz : nn = 0 := by have := HNN.out; rw [h0] at this; simpa using this
        have H0 := hid h0
        clear h0
        subst hz
        have hW := cWaitV HV5.out (HMA.out.tch HT5.out HV.out.nocell) HML.out HWL.out (by have := HBWW.out; have := HT5.out.size; omega)
        have HW := hid hW
        clear hW
        go_wp2_with (first
          | ((with_reducible refine loadM (x := ?lx11) (b := w.heap.size) m.m ?lg11 ?lo11 ?lxx11 ?lc11 ?lh11); (case lg11 => rfl); (case lo11 => rfl); (case lxx11 => rfl); (case lc11 => exact HM5.out))
          | (go_at_call 116; refine HW.out.mono ?_; rintro z w8 ⟨rfl, wv', hV8, hT8, hF8⟩; have HV8 := hid hV8; have HT8 := hid hT8; have HF8 := hid hF8; clear hV8 hT8 hF8)
          | fail)
        go_ret
        rw [HR.out]
        have hr0 : r.2 = [] := by have := HAN5.out; rw [H0.out] at this; exact this.symm
        refine ⟨_, [], wv', rfl, slM_nil HSH5.out H0.out, nil_shape HSH5.out H0.out, by simp, by simpa using hr0.symm, ?_, (HT5.out.mono fun k hk => .inl hk).trans (HT8.out.mono fun k hk => ?_), fun k hk => ?_, fun k hk => .inr (.inr rfl), .inl rfl⟩
        · rw [if_pos (by rw [hr0]; rfl)]; exact HV8.out
        · rcases hk with hk | hk
          · exact .inl (.inl hk)
          · exact .inr hk
        · rcases HF8.out k hk with e | e
          · exact .inl e
          · exact .inr (Nat.le_trans HT5.out.size e)
      · have hz : ¬ nn = 0 := fun e => h0 (List.length_eq_zero_iff.1 (by have := HNN.out; omega))
        have hz2 : ¬ ((nn : Int) = 0) := by omega
        go_wp2_with fail
        go_ret
        rw [HR.out]
        have hr0 : r.2.length ≠ 0 := by have := HAN5.out; rw [← this, List.length_map]; exact fun e => h0 (List.length_eq_zero_iff.1 e)
        refine ⟨_, ls, wv, rfl, HS5.out, HSH5.out, HAT5.out, HAN5.out, ?_, HT5.out.mono fun k hk => .inl hk, fun k hk => .inl hk, fun k hk => .inl hk, .inr HMT5.out⟩
        rw [if_neg hr0]; exact HV5.out
    · have HH1 : Hid (¬ (0 < m.m.bal ∧ m.m.fl = false)) := hid (fun e => by rw [← HFL.out] at e; exact absurd e.2 (by decide))
      clear h1
      go_wp2_with (first
        | (clear tok; (with_reducible refine opaqueW ((w.alloc (.cells m.m.arr 50)).alloc (.cells y.e.arr 67)) ?_); intro W0 hW; rw [← hW] at HB HM HE HZ; clear hW; have kb : W0.cell? ⟨w.heap.size, 3, none⟩ = some (.int .i64 m.m.bal) := HM.out.cell rfl)
        | ((with_reducible refine loadC (x := ?lx12) (b := w.heap.size + 1) (T := 67) y.e ?lg12 ?lo12 ?lxx12 ?lc12 ?lh12); (case lg12 => rfl); (case lo12 => rfl); (case lxx12 => rfl); (case lc12 => exact HE.out))
        | (go_at_call 112; refine (cPromise y.e m.m.bal _).mono ?_; rintro z w2 ⟨hz, hB⟩; rw [prom_eq HBW.out HLE.out] at hz; subst hz; have HB2 := hid hB; have HR2 : Hid (Room w2 (w.heap.size + 1) 67) := hid (Ob.room (heapB HE.out hB (by have := HZ.out; omega))); have HMv : Hid (OM w2 w.heap.size m.m) := hid (heapB HM.out hB (by have := HZ.out; omega)); clear hB)
        | ((with_reducible refine uponStore (e := (promY y m.m.bal).e) HR2.out ?_); intro w3 hO hU; have HO3 := hid hO; have HU3 := hid hU; have HMw : Hid (OM w3 w.heap.size m.m) := hid (hU.ob HMv.out (by omega)); have kb3 : w3.cell? ⟨w.heap.size, 3, none⟩ = some (.int .i64 m.m.bal) := HMw.out.cell rfl; have kl3 : w3.cell? ⟨w.heap.size, 13, none⟩ = some (.bool true) := HMw.out.cell (j := 13) (by rw [show m.m.list[13]? = some (.bool m.m.fl) from rfl, ← HFL.out]); clear hO hU)
        | fail)
      have HB3 : Hid (Below w.heap.size w w3) := hid ((HB.out.trans (HB2.out.mono HB.out.size)).trans (HU3.out.below w.heap.size (Nat.le_succ _)))
      have HM3 := HMw
      clear HMw HU3 HB2 HR2 HMv HM HE HB kb kb3 kl3
      have HYE : Hid (propY m y = (promY y m.m.bal)) := hid (by unfold propY; rw [if_neg HH1.out])
      have HOK3 : Hid (PutOk s (promY y m.m.bal)) := hid (by have := prop_put (m := m) HOK.out HBW.out; rwa [HYE.out] at this)
      have HYA3 : Hid ((promY y m.m.bal).at w3) := hid (by have := prop_at (m := m) (HYA.out.on HB3.out); rwa [HYE.out] at this)
      have HYL3 : Hid ((promY y m.m.bal).low B) := hid (by have := prop_low (m := m) HYL.out; rwa [HYE.out] at this)
      have HOKA : Hid (PutOk (putD s (promY y m.m.bal)) (promY y m.m.bal)) := hid (put_after HOK3.out)
      have HV3 := hid (HV.out.on HB3.out)
      have HNI : Hid (∀ k, w.heap.size ≤ k → ¬ TI x b b2 k) := hid fun k hk hT => by have := HV.out.lt k (.inr hT); omega
      have HF : Hid (∀ W, Tch (TI x b b2) w3 W → W.cell? ⟨q, 0, none⟩ = some (ptr x)) := hid fun W hW => (cellAt' (hW.ob HV3.out.ob HV3.out.qi) 0).trans rfl
      refine rh_start (S := fun W => Tch (TI x b b2) w3 W) (n := 6) (listed := #[false, false, false, false, false, false]) (by kernel_rfl) rfl rfl ?_
      have HS0 : Hid (Tch (TI x b b2) w3 w3.drew) := hid (Tch.ofBelow (belowDrew (Below.refl _ w3)))
      have HVd := hid (HV3.out.on (belowDrew (Below.refl _ w3)))
      have HYd := hid (HYA3.out.on (belowDrew (Below.refl _ w3)))
      generalize w3.drew = wd3 at HS0 HVd HYd ⊢
      refine rh_takeS (i := 0) (o := ?o13) (v := ?v13) (listed' := ?l13) (a' := ?a13) ?hi13 (by kernel_rfl) (by kernel_rfl) (by kernel_rfl) ?hq13 ?hl13 ?hw13 ?hv13 ?ha13 HS0.out ?hh13
      case hi13 => (simp only [List.getElem?_toArray, List.getElem?_cons_zero]; try rfl)
      case hq13 => exact fun _ _ _ h => h
      case hl13 => (simp only [List.setIfInBounds_toArray, List.set_cons_zero]; try rfl)
      case hw13 => rfl
      case hv13 =>
        intro W hW
        have k0 := HF.out W hW
        go_simp
        try with_reducible rfl
      case ha13 => (simp only [Act.put, List.setIfInBounds_toArray, List.set_cons_succ, List.set_cons_zero]; try rfl)
      refine rh_takeS (i := 1) (o := ?o14) (v := ?v14) (listed' := ?l14) (a' := ?a14) ?hi14 (by kernel_rfl) (by kernel_rfl) (by kernel_rfl) ?hq14 ?hl14 ?hw14 ?hv14 ?ha14 HS0.out ?hh14
      case hi14 => (simp only [List.getElem?_toArray, List.getElem?_cons_succ, List.getElem?_cons_zero]; try rfl)
      case hq14 => exact fun _ _ _ h => h
      case hl14 => (simp only [List.setIfInBounds_toArray, List.set_cons_succ, List.set_cons_zero]; try rfl)
      case hw14 => rfl
      case hv14 =>
        intro W hW
        have k0 := HF.out W hW
        go_simp
        try with_reducible rfl
      case ha14 => (simp only [Act.put, List.setIfInBounds_toArray, List.set_cons_succ, List.set_cons_zero]; try rfl)
      refine rh_takeS (i := 2) (o := ?o15) (v := ?v15) (listed' := ?l15) (a' := ?a15) ?hi15 (by kernel_rfl) (by kernel_rfl) (by kernel_rfl) ?hq15 ?hl15 ?hw15 ?hv15 ?ha15 HS0.out ?hh15
      case hi15 => (simp only [List.getElem?_toArray, List.getElem?_cons_succ, List.getElem?_cons_zero]; try rfl)
      case hq15 => exact fun _ _ _ h => h
      case hl15 => (simp only [List.setIfInBounds_toArray, List.set_cons_succ, List.set_cons_zero]; try rfl)
      case hw15 => rfl
      case hv15 =>
        intro W hW
        have k0 := HF.out W hW
        go_simp
        try with_reducible rfl
      case ha15 => (simp only [Act.put, List.setIfInBounds_toArray, List.set_cons_succ, List.set_cons_zero]; try rfl)
      refine rh_takeS (i := 3) (o := ?o16) (v := ?v16) (listed' := ?l16) (a' := ?a16) ?hi16 (by kernel_rfl) (by kernel_rfl) (by kernel_rfl) ?hq16 ?hl16 ?hw16 ?hv16 ?ha16 HS0.out ?hh16
      case hi16 => (simp only [List.getElem?_toArray, List.getElem?_cons_succ, List.getElem?_cons_zero]; try rfl)
      case hq16 => exact fun _ _ _ h => h
      case hl16 => (simp only [List.setIfInBounds_toArray, List.set_cons_succ, List.set_cons_zero]; try rfl)
      case hw16 => rfl
      case hv16 =>
        intro W hW
        have k0 := HF.out W hW
        go_simp
        try with_reducible rfl
      case ha16 => (simp only [Act.put, List.setIfInBounds_toArray, List.set_cons_succ, List.set_cons_zero]; try rfl)
      refine rh_load (i := 4) (o := ?o17) (cs := (promY y m.m.bal).e.list) (T := 67) (x := ?x17) (b := ?b17) (q := ?q17) (listed' := ?l17) (a' := ?a17) ?hi17 (by kernel_rfl) (by kernel_rfl) (by kernel_rfl) ?hq17 ?hl17 ?hg17 ?ho17 ?hx17 ?hc17 Tryz.underlying67 rfl (infoEc (promY y m.m.bal).e) ?ha17 HS0.out ?hh17
      case hi17 => (simp only [List.getElem?_toArray, List.getElem?_cons_succ, List.getElem?_cons_zero]; try rfl)
      case hq17 => exact fun _ _ _ h => h
      case hl17 => (simp only [List.setIfInBounds_toArray, List.set_cons_succ, List.set_cons_zero]; try rfl)
      case hg17 => rfl
      case ho17 => rfl
      case hx17 => rfl
      case hc17 => exact fun W hW => Ob.range (T := 67) (e := (promY y m.m.bal).e) (hW.ob HO3.out (HNI.out _ (Nat.le_succ _)))
      case ha17 => (show Act.put _ _ (Value.agg (promY y m.m.bal).e.arr) = _); (simp only [Act.put, List.setIfInBounds_toArray, List.set_cons_succ, List.set_cons_zero]; try rfl)
      refine wpAnyH_ready (rs := [5]) (by kernel_rfl) (by simp) ?_
      refine rh_cons (i := 5) (o := ?o18) (listed' := ?l18) ?hi18 ?hl18 ?hg18 ?hh18 ?hs18
      case hi18 => (simp only [List.getElem?_toArray, List.getElem?_cons_succ, List.getElem?_cons_zero]; try rfl)
      case hl18 => (simp only [List.setIfInBounds_toArray, List.set_cons_succ, List.set_cons_zero]; try rfl)
      case hg18 => rfl
      case hs18 => exact AllReadyH.nil
      intro K hK
      go_simp
      refine (cPutV HVd.out HN.out HYd.out HYL3.out HOK3.out).mono ?_
      rintro z w4 ⟨rfl, hV4, hT4⟩
      have HS4 := hid (HS0.out.trans hT4)
      have HV4 := hid hV4
      clear hV4 hT4
      refine hK.out _ _ HS4.out ?_
      clear hK K
      refine wpAnyH_done (by kernel_rfl) ?_ _
      have HM4 : Hid (OM w4 w.heap.size m.m) := hid (HS4.out.ob HM3.out (HNI.out _ (Nat.le_refl _)))
      have HE4 : Hid (Ob w4 (w.heap.size + 1) 67 (promY y m.m.bal).e) := hid (HS4.out.ob HO3.out (HNI.out _ (Nat.le_succ _)))
      have HT4 : Hid (Tch (TV q x b b2) w w4) := hid ((Tch.ofBelow HB3.out).trans (tch_i HS4.out))
      have HY4 : Hid ((promY y m.m.bal).at w4) := hid (HV3.out.en (tch_i HS4.out) HYA3.out)
      clear HF HS0 HVd HYd HYA3 HV3 HO3 HM3 HB3 HS4 HOK3 HNI
      have hD := cDecide HV4.out (by have := HNL.out; omega) (HMA.out.tch (Tch.mono HT4.out (fun k hk => hk)) HV.out.nocell) HMS.out HFU.out HY4.out HML.out HYL3.out HOKA.out
      have HD := hid hD
      clear hD
      obtain ⟨r, hr⟩ : ∃ r, r = decideF nd (putD s (promY y m.m.bal)) m (promY y m.m.bal) := ⟨_, rfl⟩
      rw [← hr] at HD
      have HR : Hid (proposeF nd s ws m y = (r.1, if r.2.length = 0 then waitF ws m else ws, r.2)) := hid (by unfold proposeF; rw [HYE.out, ← hr])
      clear hr HYE
      have HNV : Hid (∀ k, w.heap.size ≤ k → ¬ TV q x b b2 k) := hid fun k hk hT => by have := HV.out.lt k hT; omega
      go_wp2_with (first
        | ((with_reducible refine loadM (x := ?lx19) (b := w.heap.size) m.m ?lg19 ?lo19 ?lxx19 ?lc19 ?lh19); (case lg19 => rfl); (case lo19 => rfl); (case lxx19 => rfl); (case lc19 => exact HM4.out))
        | ((with_reducible refine loadC (x := ?lx20) (b := w.heap.size + 1) (T := 67) (promY y m.m.bal).e ?lg20 ?lo20 ?lxx20 ?lc20 ?lh20); (case lg20 => rfl); (case lo20 => rfl); (case lxx20 => rfl); (case lc20 => exact HE4.out))
        | fail)
      go_at_call 115
      refine HD.out.mono ?_
      intro z w5 hp
      obtain ⟨v5, ls, rfl, hs5, hsh5, hat5, han5, hV5, hT5, hMT5⟩ := hp; have HMT5 := hid hMT5; clear hMT5
      obtain ⟨na, nc, nn, rfl, hnn⟩ := slice_of hsh5
      have HS5 := hid hs5
      have HSH5 := hid hsh5
      have HAT5 := hid hat5
      have HAN5 := hid han5
      have HV5 := hid hV5
      have HT5 := hid (HT4.out.trans hT5)
      have HM5 : Hid (OM w5 w.heap.size m.m) := hid (hT5.ob HM4.out (HNV.out _ (Nat.le_refl _)))
      have HNN := hid hnn
      clear hs5 hsh5 hat5 han5 hV5 hT5 hnn
      by_cases h0 : ls = []
      · have hz : nn = 0 := by have := HNN.out; rw [h0] at this; simpa using this
        have H0 := hid h0
        clear h0
        subst hz
        have hW := cWaitV HV5.out (HMA.out.tch HT5.out HV.out.nocell) HML.out HWL.out (by have := HBWW.out; have := HT5.out.size; omega)
        have HW := hid hW
        clear hW
        go_wp2_with (first
          | ((with_reducible refine loadM (x := ?lx21) (b := w.heap.size) m.m ?lg21 ?lo21 ?lxx21 ?lc21 ?lh21); (case lg21 => rfl); (case lo21 => rfl); (case lxx21 => rfl); (case lc21 => exact HM5.out))
          | (go_at_call 116; refine HW.out.mono ?_; rintro z w8 ⟨rfl, wv', hV8, hT8, hF8⟩; have HV8 := hid hV8; have HT8 := hid hT8; have HF8 := hid hF8; clear hV8 hT8 hF8)
          | fail)
        go_ret
        rw [HR.out]
        have hr0 : r.2 = [] := by have := HAN5.out; rw [H0.out] at this; exact this.symm
        refine ⟨_, [], wv', rfl, slM_nil HSH5.out H0.out, nil_shape HSH5.out H0.out, by simp, by simpa using hr0.symm, ?_, (HT5.out.mono fun k hk => .inl hk).trans (HT8.out.mono fun k hk => ?_), fun k hk => ?_, fun k hk => .inr (.inr rfl), .inl rfl⟩
        · rw [if_pos (by rw [hr0]; rfl)]; exact HV8.out
        · rcases hk with hk | hk
          · exact .inl (.inl hk)
          · exact .inr hk
        · rcases HF8.out k hk with e | e
          · exact .inl e
          · exact .inr (Nat.le_trans HT5.out.size e)
      · have hz : ¬ nn = 0 := fun e => h0 (List.length_eq_zero_iff.1 (by have := HNN.out; omega))
        have hz2 : ¬ ((nn : Int) = 0) := by omega
        go_wp2_with fail
        go_ret
        rw [HR.out]
        have hr0 : r.2.length ≠ 0 := by have := HAN5.out; rw [← this, List.length_map]; exact fun e => h0 (List.length_eq_zero_iff.1 e)
        refine ⟨_, ls, wv, rfl, HS5.out, HSH5.out, HAT5.out, HAN5.out, ?_, HT5.out.mono fun k hk => .inl hk, fun k hk => .inl hk, fun k hk => .inl hk, .inr HMT5.out⟩
        rw [if_neg hr0]; exact HV5.out
  · have HH1 : Hid (¬ (0 < m.m.bal ∧ m.m.fl = false)) := hid (fun e => h1 e.1)
    go_wp2_with (first
      | (clear tok; (with_reducible refine opaqueW ((w.alloc (.cells m.m.arr 50)).alloc (.cells y.e.arr 67)) ?_); intro W0 hW; rw [← hW] at HB HM HE HZ; clear hW; have kb : W0.cell? ⟨w.heap.size, 3, none⟩ = some (.int .i64 m.m.bal) := HM.out.cell rfl)
      | ((with_reducible refine loadC (x := ?lx22) (b := w.heap.size + 1) (T := 67) y.e ?lg22 ?lo22 ?lxx22 ?lc22 ?lh22); (case lg22 => rfl); (case lo22 => rfl); (case lxx22 => rfl); (case lc22 => exact HE.out))
      | (go_at_call 112; refine (cPromise y.e m.m.bal _).mono ?_; rintro z w2 ⟨hz, hB⟩; rw [prom_eq HBW.out HLE.out] at hz; subst hz; have HB2 := hid hB; have HR2 : Hid (Room w2 (w.heap.size + 1) 67) := hid (Ob.room (heapB HE.out hB (by have := HZ.out; omega))); have HMv : Hid (OM w2 w.heap.size m.m) := hid (heapB HM.out hB (by have := HZ.out; omega)); clear hB)
      | ((with_reducible refine uponStore (e := (promY y m.m.bal).e) HR2.out ?_); intro w3 hO hU; have HO3 := hid hO; have HU3 := hid hU; have HMw : Hid (OM w3 w.heap.size m.m) := hid (hU.ob HMv.out (by omega)); have kb3 : w3.cell? ⟨w.heap.size, 3, none⟩ = some (.int .i64 m.m.bal) := HMw.out.cell rfl; have kl3 : w3.cell? ⟨w.heap.size, 13, none⟩ = some (.bool fl) := HMw.out.cell (j := 13) (by rw [show m.m.list[13]? = some (.bool m.m.fl) from rfl, ← HFL.out]); clear hO hU)
      | fail)
    have HB3 : Hid (Below w.heap.size w w3) := hid ((HB.out.trans (HB2.out.mono HB.out.size)).trans (HU3.out.below w.heap.size (Nat.le_succ _)))
    have HM3 := HMw
    clear HMw HU3 HB2 HR2 HMv HM HE HB kb kb3 kl3
    have HYE : Hid (propY m y = (promY y m.m.bal)) := hid (by unfold propY; rw [if_neg HH1.out])
    have HOK3 : Hid (PutOk s (promY y m.m.bal)) := hid (by have := prop_put (m := m) HOK.out HBW.out; rwa [HYE.out] at this)
    have HYA3 : Hid ((promY y m.m.bal).at w3) := hid (by have := prop_at (m := m) (HYA.out.on HB3.out); rwa [HYE.out] at this)
    have HYL3 : Hid ((promY y m.m.bal).low B) := hid (by have := prop_low (m := m) HYL.out; rwa [HYE.out] at this)
    have HOKA : Hid (PutOk (putD s (promY y m.m.bal)) (promY y m.m.bal)) := hid (put_after HOK3.out)
    have HV3 := hid (HV.out.on HB3.out)
    have HNI : Hid (∀ k, w.heap.size ≤ k → ¬ TI x b b2 k) := hid fun k hk hT => by have := HV.out.lt k (.inr hT); omega
    have HF : Hid (∀ W, Tch (TI x b b2) w3 W → W.cell? ⟨q, 0, none⟩ = some (ptr x)) := hid fun W hW => (cellAt' (hW.ob HV3.out.ob HV3.out.qi) 0).trans rfl
    refine rh_start (S := fun W => Tch (TI x b b2) w3 W) (n := 6) (listed := #[false, false, false, false, false, false]) (by kernel_rfl) rfl rfl ?_
    have HS0 : Hid (Tch (TI x b b2) w3 w3.drew) := hid (Tch.ofBelow (belowDrew (Below.refl _ w3)))
    have HVd := hid (HV3.out.on (belowDrew (Below.refl _ w3)))
    have HYd := hid (HYA3.out.on (belowDrew (Below.refl _ w3)))
    generalize w3.drew = wd3 at HS0 HVd HYd ⊢
    refine rh_takeS (i := 0) (o := ?o23) (v := ?v23) (listed' := ?l23) (a' := ?a23) ?hi23 (by kernel_rfl) (by kernel_rfl) (by kernel_rfl) ?hq23 ?hl23 ?hw23 ?hv23 ?ha23 HS0.out ?hh23
    case hi23 => (simp only [List.getElem?_toArray, List.getElem?_cons_zero]; try rfl)
    case hq23 => exact fun _ _ _ h => h
    case hl23 => (simp only [List.setIfInBounds_toArray, List.set_cons_zero]; try rfl)
    case hw23 => rfl
    case hv23 =>
      intro W hW
      have k0 := HF.out W hW
      go_simp
      try with_reducible rfl
    case ha23 => (simp only [Act.put, List.setIfInBounds_toArray, List.set_cons_succ, List.set_cons_zero]; try rfl)
    refine rh_takeS (i := 1) (o := ?o24) (v := ?v24) (listed' := ?l24) (a' := ?a24) ?hi24 (by kernel_rfl) (by kernel_rfl) (by kernel_rfl) ?hq24 ?hl24 ?hw24 ?hv24 ?ha24 HS0.out ?hh24
    case hi24 => (simp only [List.getElem?_toArray, List.getElem?_cons_succ, List.getElem?_cons_zero]; try rfl)
    case hq24 => exact fun _ _ _ h => h
    case hl24 => (simp only [List.setIfInBounds_toArray, List.set_cons_succ, List.set_cons_zero]; try rfl)
    case hw24 => rfl
    case hv24 =>
      intro W hW
      have k0 := HF.out W hW
      go_simp
      try with_reducible rfl
    case ha24 => (simp only [Act.put, List.setIfInBounds_toArray, List.set_cons_succ, List.set_cons_zero]; try rfl)
    refine rh_takeS (i := 2) (o := ?o25) (v := ?v25) (listed' := ?l25) (a' := ?a25) ?hi25 (by kernel_rfl) (by kernel_rfl) (by kernel_rfl) ?hq25 ?hl25 ?hw25 ?hv25 ?ha25 HS0.out ?hh25
    case hi25 => (simp only [List.getElem?_toArray, List.getElem?_cons_succ, List.getElem?_cons_zero]; try rfl)
    case hq25 => exact fun _ _ _ h => h
    case hl25 => (simp only [List.setIfInBounds_toArray, List.set_cons_succ, List.set_cons_zero]; try rfl)
    case hw25 => rfl
    case hv25 =>
      intro W hW
      have k0 := HF.out W hW
      go_simp
      try with_reducible rfl
    case ha25 => (simp only [Act.put, List.setIfInBounds_toArray, List.set_cons_succ, List.set_cons_zero]; try rfl)
    refine rh_takeS (i := 3) (o := ?o26) (v := ?v26) (listed' := ?l26) (a' := ?a26) ?hi26 (by kernel_rfl) (by kernel_rfl) (by kernel_rfl) ?hq26 ?hl26 ?hw26 ?hv26 ?ha26 HS0.out ?hh26
    case hi26 => (simp only [List.getElem?_toArray, List.getElem?_cons_succ, List.getElem?_cons_zero]; try rfl)
    case hq26 => exact fun _ _ _ h => h
    case hl26 => (simp only [List.setIfInBounds_toArray, List.set_cons_succ, List.set_cons_zero]; try rfl)
    case hw26 => rfl
    case hv26 =>
      intro W hW
      have k0 := HF.out W hW
      go_simp
      try with_reducible rfl
    case ha26 => (simp only [Act.put, List.setIfInBounds_toArray, List.set_cons_succ, List.set_cons_zero]; try rfl)
    refine rh_load (i := 4) (o := ?o27) (cs := (promY y m.m.bal).e.list) (T := 67) (x := ?x27) (b := ?b27) (q := ?q27) (listed' := ?l27) (a' := ?a27) ?hi27 (by kernel_rfl) (by kernel_rfl) (by kernel_rfl) ?hq27 ?hl27 ?hg27 ?ho27 ?hx27 ?hc27 Tryz.underlying67 rfl (infoEc (promY y m.m.bal).e) ?ha27 HS0.out ?hh27
    case hi27 => (simp only [List.getElem?_toArray, List.getElem?_cons_succ, List.getElem?_cons_zero]; try rfl)
    case hq27 => exact fun _ _ _ h => h
    case hl27 => (simp only [List.setIfInBounds_toArray, List.set_cons_succ, List.set_cons_zero]; try rfl)
    case hg27 => rfl
    case ho27 => rfl
    case hx27 => rfl
    case hc27 => exact fun W hW => Ob.range (T := 67) (e := (promY y m.m.bal).e) (hW.ob HO3.out (HNI.out _ (Nat.le_succ _)))
    case ha27 => (show Act.put _ _ (Value.agg (promY y m.m.bal).e.arr) = _); (simp only [Act.put, List.setIfInBounds_toArray, List.set_cons_succ, List.set_cons_zero]; try rfl)
    refine wpAnyH_ready (rs := [5]) (by kernel_rfl) (by simp) ?_
    refine rh_cons (i := 5) (o := ?o28) (listed' := ?l28) ?hi28 ?hl28 ?hg28 ?hh28 ?hs28
    case hi28 => (simp only [List.getElem?_toArray, List.getElem?_cons_succ, List.getElem?_cons_zero]; try rfl)
    case hl28 => (simp only [List.setIfInBounds_toArray, List.set_cons_succ, List.set_cons_zero]; try rfl)
    case hg28 => rfl
    case hs28 => exact AllReadyH.nil
    intro K hK
    go_simp
    refine (cPutV HVd.out HN.out HYd.out HYL3.out HOK3.out).mono ?_
    rintro z w4 ⟨rfl, hV4, hT4⟩
    have HS4 := hid (HS0.out.trans hT4)
    have HV4 := hid hV4
    clear hV4 hT4
    refine hK.out _ _ HS4.out ?_
    clear hK K
    refine wpAnyH_done (by kernel_rfl) ?_ _
    have HM4 : Hid (OM w4 w.heap.size m.m) := hid (HS4.out.ob HM3.out (HNI.out _ (Nat.le_refl _)))
    have HE4 : Hid (Ob w4 (w.heap.size + 1) 67 (promY y m.m.bal).e) := hid (HS4.out.ob HO3.out (HNI.out _ (Nat.le_succ _)))
    have HT4 : Hid (Tch (TV q x b b2) w w4) := hid ((Tch.ofBelow HB3.out).trans (tch_i HS4.out))
    have HY4 : Hid ((promY y m.m.bal).at w4) := hid (HV3.out.en (tch_i HS4.out) HYA3.out)
    clear HF HS0 HVd HYd HYA3 HV3 HO3 HM3 HB3 HS4 HOK3 HNI
    have hD := cDecide HV4.out (by have := HNL.out; omega) (HMA.out.tch (Tch.mono HT4.out (fun k hk => hk)) HV.out.nocell) HMS.out HFU.out HY4.out HML.out HYL3.out HOKA.out
    have HD := hid hD
    clear hD
    obtain ⟨r, hr⟩ : ∃ r, r = decideF nd (putD s (promY y m.m.bal)) m (promY y m.m.bal) := ⟨_, rfl⟩
    rw [← hr] at HD
    have HR : Hid (proposeF nd s ws m y = (r.1, if r.2.length = 0 then waitF ws m else ws, r.2)) := hid (by unfold proposeF; rw [HYE.out, ← hr])
    clear hr HYE
    have HNV : Hid (∀ k, w.heap.size ≤ k → ¬ TV q x b b2 k) := hid fun k hk hT => by have := HV.out.lt k hT; omega
    go_wp2_with (first
      | ((with_reducible refine loadM (x := ?lx29) (b := w.heap.size) m.m ?lg29 ?lo29 ?lxx29 ?lc29 ?lh29); (case lg29 => rfl); (case lo29 => rfl); (case lxx29 => rfl); (case lc29 => exact HM4.out))
      | ((with_reducible refine loadC (x := ?lx30) (b := w.heap.size + 1) (T := 67) (promY y m.m.bal).e ?lg30 ?lo30 ?lxx30 ?lc30 ?lh30); (case lg30 => rfl); (case lo30 => rfl); (case lxx30 => rfl); (case lc30 => exact HE4.out))
      | fail)
    go_at_call 115
    refine HD.out.mono ?_
    intro z w5 hp
    obtain ⟨v5, ls, rfl, hs5, hsh5, hat5, han5, hV5, hT5, hMT5⟩ := hp; have HMT5 := hid hMT5; clear hMT5
    obtain ⟨na, nc, nn, rfl, hnn⟩ := slice_of hsh5
    have HS5 := hid hs5
    have HSH5 := hid hsh5
    have HAT5 := hid hat5
    have HAN5 := hid han5
    have HV5 := hid hV5
    have HT5 := hid (HT4.out.trans hT5)
    have HM5 : Hid (OM w5 w.heap.size m.m) := hid (hT5.ob HM4.out (HNV.out _ (Nat.le_refl _)))
    have HNN := hid hnn
    clear hs5 hsh5 hat5 han5 hV5 hT5 hnn
    by_cases h0 : ls = []
    · have hz : nn = 0 := by have := HNN.out; rw [h0] at this; simpa using this
      have H0 := hid h0
      clear h0
      subst hz
      have hW := cWaitV HV5.out (HMA.out.tch HT5.out HV.out.nocell) HML.out HWL.out (by have := HBWW.out; have := HT5.out.size; omega)
      have HW := hid hW
      clear hW
      go_wp2_with (first
        | ((with_reducible refine loadM (x := ?lx31) (b := w.heap.size) m.m ?lg31 ?lo31 ?lxx31 ?lc31 ?lh31); (case lg31 => rfl); (case lo31 => rfl); (case lxx31 => rfl); (case lc31 => exact HM5.out))
        | (go_at_call 116; refine HW.out.mono ?_; rintro z w8 ⟨rfl, wv', hV8, hT8, hF8⟩; have HV8 := hid hV8; have HT8 := hid hT8; have HF8 := hid hF8; clear hV8 hT8 hF8)
        | fail)
      go_ret
      rw [HR.out]
      have hr0 : r.2 = [] := by have := HAN5.out; rw [H0.out] at this; exact this.symm
      refine ⟨_, [], wv', rfl, slM_nil HSH5.out H0.out, nil_shape HSH5.out H0.out, by simp, by simpa using hr0.symm, ?_, (HT5.out.mono fun k hk => .inl hk).trans (HT8.out.mono fun k hk => ?_), fun k hk => ?_, fun k hk => .inr (.inr rfl), .inl rfl⟩
      · rw [if_pos (by rw [hr0]; rfl)]; exact HV8.out
      · rcases hk with hk | hk
        · exact .inl (.inl hk)
        · exact .inr hk
      · rcases HF8.out k hk with e | e
        · exact .inl e
        · exact .inr (Nat.le_trans HT5.out.size e)
    · have hz : ¬ nn = 0 := fun e => h0 (List.length_eq_zero_iff.1 (by have := HNN.out; omega))
      have hz2 : ¬ ((nn : Int) = 0) := by omega
      go_wp2_with fail
      go_ret
      rw [HR.out]
      have hr0 : r.2.length ≠ 0 := by have := HAN5.out; rw [← this, List.length_map]; exact fun e => h0 (List.length_eq_zero_iff.1 e)
      refine ⟨_, ls, wv, rfl, HS5.out, HSH5.out, HAT5.out, HAN5.out, ?_, HT5.out.mono fun k hk => .inl hk, fun k hk => .inl hk, fun k hk => .inl hk, .inr HMT5.out⟩
      rw [if_neg hr0]; exact HV5.out
end Go.Proofs.YtlehcaacfgocaaaGreat
