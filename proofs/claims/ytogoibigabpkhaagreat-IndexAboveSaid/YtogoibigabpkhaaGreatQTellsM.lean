import Derived.Test.YtogoibigabpkhaaGreatQStepM
import Derived.Test.YtogoibigabpkhaaGreatQAsk2M
import Derived.Test.YtogoibigabpkhaaGreatQRAsk2M
import Derived.Test.YtogoibigabpkhaaGreatJKeptM
/- What both indexes tell is the same. -/
namespace Go.Proofs.YtogoibigabpkhaaGreat
set_option linter.unusedVariables false
open Go.RowKit
open Go.Lib (hid)

theorem sameB_self (cs : List C7) : sameB cs cs = true := by unfold sameB; exact decide_eq_true rfl
theorem sameE_self (e : Ev) (f a v : List C7) : sameE e f a v e f a v = true := by
  unfold sameE
  simp [sameB_self, C7.same_iff]
theorem look_sl {w : World} {xs : List En} (hA : AllAt w xs) (hs : ∀ y ∈ xs, y.short 80) (i : Int) : ∃ f a v, Sl w (lookE xs i).fp.v f ∧ Sl w (lookE xs i).xp.v a ∧ Sl w (lookE xs i).vp.v v ∧ f.length ≤ 100000 ∧ a.length ≤ 100000 ∧ v.length ≤ 100000 := by
  cases h : lookG En.id xs i with
  | none =>
    rw [(lookE_none h).1]
    exact ⟨[], [], [], nilS w, nilS w, nilS w, Nat.zero_le _, Nat.zero_le _, Nat.zero_le _⟩
  | some y =>
    rw [(lookE_some h).1]
    obtain ⟨-, hm⟩ := look_key En.id xs _ y h
    obtain ⟨h1, h2, h3⟩ := hA y hm
    obtain ⟨s1, s2, s3⟩ := hs y hm
    exact ⟨y.f, y.a, y.v, h1, h2, h3, by omega, by omega, by omega⟩
set_option maxHeartbeats 16000000 in
set_option maxRecDepth 100000 in
theorem cTells {w : World} {x b b2 p N : Nat} {nd c c' : Int} {xs : List En} {a : Ac} (h : Pv w x b b2 p N nd c c' xs) (hN : N ≤ 20000) (ha : a.at w) (hcs : a.cs.length ≤ 40) :
    Calls Tryz.prog 13 #[ptr x, ptr p, .agg a.arr] w fun e w' => e = .returned (.bool true) ∧ Below w.heap.size w w' := by
  have hb : Below w.heap.size w ((w.alloc (.cells a.arr 46)).alloc (.cells #[.int .i64 a.y.e.c.i, .int .i64 a.y.e.c.k, .int .i64 a.y.e.c.s, .int .i64 a.y.e.c.t, .int .i64 a.y.e.c.d, .int .i64 a.y.e.c.p, .int .i64 a.y.e.c.q] 40)) := laid2_b w (.cells a.arr 46) (.cells #[.int .i64 a.y.e.c.i, .int .i64 a.y.e.c.k, .int .i64 a.y.e.c.s, .int .i64 a.y.e.c.t, .int .i64 a.y.e.c.d, .int .i64 a.y.e.c.p, .int .i64 a.y.e.c.q] 40)
  have ho : ((w.alloc (.cells a.arr 46)).alloc (.cells #[.int .i64 a.y.e.c.i, .int .i64 a.y.e.c.k, .int .i64 a.y.e.c.s, .int .i64 a.y.e.c.t, .int .i64 a.y.e.c.d, .int .i64 a.y.e.c.p, .int .i64 a.y.e.c.q] 40)).heap[w.heap.size]? = some (.cells a.arr 46) := laid2_0 w (.cells a.arr 46) (.cells #[.int .i64 a.y.e.c.i, .int .i64 a.y.e.c.k, .int .i64 a.y.e.c.s, .int .i64 a.y.e.c.t, .int .i64 a.y.e.c.d, .int .i64 a.y.e.c.p, .int .i64 a.y.e.c.q] 40)
  have hc : ((w.alloc (.cells a.arr 46)).alloc (.cells #[.int .i64 a.y.e.c.i, .int .i64 a.y.e.c.k, .int .i64 a.y.e.c.s, .int .i64 a.y.e.c.t, .int .i64 a.y.e.c.d, .int .i64 a.y.e.c.p, .int .i64 a.y.e.c.q] 40)).heap[w.heap.size + 1]? = some (.cells #[.int .i64 a.y.e.c.i, .int .i64 a.y.e.c.k, .int .i64 a.y.e.c.s, .int .i64 a.y.e.c.t, .int .i64 a.y.e.c.d, .int .i64 a.y.e.c.p, .int .i64 a.y.e.c.q] 40) := laid2_1 w (.cells a.arr 46) (.cells #[.int .i64 a.y.e.c.i, .int .i64 a.y.e.c.k, .int .i64 a.y.e.c.s, .int .i64 a.y.e.c.t, .int .i64 a.y.e.c.d, .int .i64 a.y.e.c.p, .int .i64 a.y.e.c.q] 40)
  have hz : ((w.alloc (.cells a.arr 46)).alloc (.cells #[.int .i64 a.y.e.c.i, .int .i64 a.y.e.c.k, .int .i64 a.y.e.c.s, .int .i64 a.y.e.c.t, .int .i64 a.y.e.c.d, .int .i64 a.y.e.c.p, .int .i64 a.y.e.c.q] 40)).heap.size = w.heap.size + 2 := by simp
  have k3 := newA_cell w a (j := 3) rfl
  have k4 := newA_cell w a (j := 4) rfl
  have k5 := newA_cell w a (j := 5) rfl
  have k6 := newA_cell w a (j := 6) rfl
  have k7 := newA_cell w a (j := 7) rfl
  have k8 := newA_cell w a (j := 8) rfl
  have k9 := newA_cell w a (j := 9) rfl
  have k2 : (w.alloc (.cells a.arr 46)).cell? ⟨w.heap.size, 2, none⟩ = some (.slice a.l.a a.l.n a.l.c) := newA_cell w a (j := 2) rfl
  skip
  have HP0 := hid h
  have HA0 := hid ha
  have HCS := hid hcs
  have HN := hid hN
  have HB := hid hb
  have HO := hid ho
  have HC := hid hc
  have HZ := hid hz
  clear h ha hcs hN hb ho hc hz
  go_enter Tryz.func13, Tryz.ntmps13
  go_wp2_with fail
  generalize ((w.alloc (.cells a.arr 46)).alloc (.cells #[.int .i64 a.y.e.c.i, .int .i64 a.y.e.c.k, .int .i64 a.y.e.c.s, .int .i64 a.y.e.c.t, .int .i64 a.y.e.c.d, .int .i64 a.y.e.c.p, .int .i64 a.y.e.c.q] 40)) = W0 at HB HO HC HZ ⊢
  clear k3 k4 k5 k6 k7 k8 k9 k2
  have HP := hid (HP0.out.on HB.out)
  have HAT := hid (HA0.out.on HB.out)
  have HFA : Hid (∀ W, Below W0.heap.size W0 W → W.cell? ⟨w.heap.size, 1, none⟩ = some (.int .i64 a.t) ∧ W.cell? ⟨w.heap.size, 2, none⟩ = some (.slice a.l.a a.l.n a.l.c) ∧ W.cell? ⟨w.heap.size + 1, 0, none⟩ = some (.int .i64 a.y.e.c.i) ∧ W.cell? ⟨w.heap.size + 1, 1, none⟩ = some (.int .i64 a.y.e.c.k) ∧ W.cell? ⟨w.heap.size + 1, 2, none⟩ = some (.int .i64 a.y.e.c.s) ∧ W.cell? ⟨w.heap.size + 1, 3, none⟩ = some (.int .i64 a.y.e.c.t) ∧ W.cell? ⟨w.heap.size + 1, 4, none⟩ = some (.int .i64 a.y.e.c.d) ∧ W.cell? ⟨w.heap.size + 1, 5, none⟩ = some (.int .i64 a.y.e.c.p) ∧ W.cell? ⟨w.heap.size + 1, 6, none⟩ = some (.int .i64 a.y.e.c.q)) := hid fun W hW => by
    have h0 := heapB HO.out hW (by have := HZ.out; omega)
    have h1 := heapB HC.out hW (by have := HZ.out; omega)
    exact ⟨(cellAt' h0 1).trans rfl, (cellAt' h0 2).trans rfl, (cellAt' h1 0).trans rfl, (cellAt' h1 1).trans rfl, (cellAt' h1 2).trans rfl, (cellAt' h1 3).trans rfl, (cellAt' h1 4).trans rfl, (cellAt' h1 5).trans rfl, (cellAt' h1 6).trans rfl⟩
  obtain ⟨n, ids, hI, hn, hi, v0, u0, hR⟩ := HP.out.ix
  have HI := hid hI
  have HR := hid hR
  have HNN := hid (show n ≤ 20000 from Nat.le_trans hn HN.out)
  have HL := hid (show xs.length ≤ 20000 from Nat.le_trans HP.out.len HN.out)
  have HAL := hid HP.out.all
  have HS1 := hid (show ∀ y ∈ xs, y.short 1024 from fun y hy => short_mono (HP.out.sh y hy) (by decide))
  have HSL := hid (show Sl W0 (.slice a.l.a a.l.n a.l.c) a.cs from HAT.out.1)
  have HLK := hid (look_sl HAL.out HP.out.sh a.y.e.c.i)
  have HWF := hid (show (Lit.int .i64 a.y.e.c.i).wf = true from HAT.out.2.2.2)
  have HW0 : Hid (Below W0.heap.size W0 W0) := hid (Below.refl _ _)
  clear hI hn hi hR HP0 HA0 HP HAT
  refine rh_start (S := fun W => Below W0.heap.size W0 W) (n := 12) (listed := #[false, false, false, false, false, false, false, false, false, false, false, false]) (by kernel_rfl) rfl rfl ?_
  have HS0 : Hid (Below W0.heap.size W0 W0.drew) := hid (belowDrew HW0.out)
  generalize World.drew W0 = wd at HS0 ⊢
  refine rh_takeS (i := 0) (o := ?o1) (v := ?v1) (listed' := ?l1) (a' := ?a1) ?hi1 (by kernel_rfl) (by kernel_rfl) (by kernel_rfl) ?hq1 ?hl1 ?hw1 ?hv1 ?ha1 HS0.out ?hh1
  case hi1 => (simp only [List.getElem?_toArray, List.getElem?_cons_zero]; try rfl)
  case hq1 => exact fun _ _ _ h => h
  case hl1 => (simp only [List.setIfInBounds_toArray, List.set_cons_zero]; try rfl)
  case hw1 => rfl
  case hv1 =>
    intro W hW
    obtain ⟨k1, k2, d0, d1, d2, d3, d4, d5, d6⟩ := HFA.out W hW
    go_simp
    try with_reducible rfl
  case ha1 => (simp only [Act.put, List.setIfInBounds_toArray, List.set_cons_succ, List.set_cons_zero]; try rfl)
  refine rh_takeS (i := 1) (o := ?o2) (v := ?v2) (listed' := ?l2) (a' := ?a2) ?hi2 (by kernel_rfl) (by kernel_rfl) (by kernel_rfl) ?hq2 ?hl2 ?hw2 ?hv2 ?ha2 HS0.out ?hh2
  case hi2 => (simp only [List.getElem?_toArray, List.getElem?_cons_succ, List.getElem?_cons_zero]; try rfl)
  case hq2 => exact fun _ _ _ h => h
  case hl2 => (simp only [List.setIfInBounds_toArray, List.set_cons_succ, List.set_cons_zero]; try rfl)
  case hw2 => rfl
  case hv2 =>
    intro W hW
    obtain ⟨k1, k2, d0, d1, d2, d3, d4, d5, d6⟩ := HFA.out W hW
    go_simp
    try with_reducible rfl
  case ha2 => (simp only [Act.put, List.setIfInBounds_toArray, List.set_cons_succ, List.set_cons_zero]; try rfl)
  refine rh_takeS (i := 2) (o := ?o3) (v := ?v3) (listed' := ?l3) (a' := ?a3) ?hi3 (by kernel_rfl) (by kernel_rfl) (by kernel_rfl) ?hq3 ?hl3 ?hw3 ?hv3 ?ha3 HS0.out ?hh3
  case hi3 => (simp only [List.getElem?_toArray, List.getElem?_cons_succ, List.getElem?_cons_zero]; try rfl)
  case hq3 => exact fun _ _ _ h => h
  case hl3 => (simp only [List.setIfInBounds_toArray, List.set_cons_succ, List.set_cons_zero]; try rfl)
  case hw3 => rfl
  case hv3 =>
    intro W hW
    obtain ⟨k1, k2, d0, d1, d2, d3, d4, d5, d6⟩ := HFA.out W hW
    go_simp
    try with_reducible rfl
  case ha3 => (simp only [Act.put, List.setIfInBounds_toArray, List.set_cons_succ, List.set_cons_zero]; try rfl)
  refine rh_takeS (i := 3) (o := ?o4) (v := ?v4) (listed' := ?l4) (a' := ?a4) ?hi4 (by kernel_rfl) (by kernel_rfl) (by kernel_rfl) ?hq4 ?hl4 ?hw4 ?hv4 ?ha4 HS0.out ?hh4
  case hi4 => (simp only [List.getElem?_toArray, List.getElem?_cons_succ, List.getElem?_cons_zero]; try rfl)
  case hq4 => exact fun _ _ _ h => h
  case hl4 => (simp only [List.setIfInBounds_toArray, List.set_cons_succ, List.set_cons_zero]; try rfl)
  case hw4 => rfl
  case hv4 =>
    intro W hW
    obtain ⟨k1, k2, d0, d1, d2, d3, d4, d5, d6⟩ := HFA.out W hW
    go_simp
    try with_reducible rfl
  case ha4 => (simp only [Act.put, List.setIfInBounds_toArray, List.set_cons_succ, List.set_cons_zero]; try rfl)
  refine rh_takeS (i := 5) (o := ?o5) (v := ?v5) (listed' := ?l5) (a' := ?a5) ?hi5 (by kernel_rfl) (by kernel_rfl) (by kernel_rfl) ?hq5 ?hl5 ?hw5 ?hv5 ?ha5 HS0.out ?hh5
  case hi5 => (simp only [List.getElem?_toArray, List.getElem?_cons_succ, List.getElem?_cons_zero]; try rfl)
  case hq5 => exact fun _ _ _ h => h
  case hl5 => (simp only [List.setIfInBounds_toArray, List.set_cons_succ, List.set_cons_zero]; try rfl)
  case hw5 => rfl
  case hv5 =>
    intro W hW
    obtain ⟨k1, k2, d0, d1, d2, d3, d4, d5, d6⟩ := HFA.out W hW
    go_simp
    try with_reducible rfl
  case ha5 => (simp only [Act.put, List.setIfInBounds_toArray, List.set_cons_succ, List.set_cons_zero]; try rfl)
  refine rh_takeS (i := 6) (o := ?o6) (v := ?v6) (listed' := ?l6) (a' := ?a6) ?hi6 (by kernel_rfl) (by kernel_rfl) (by kernel_rfl) ?hq6 ?hl6 ?hw6 ?hv6 ?ha6 HS0.out ?hh6
  case hi6 => (simp only [List.getElem?_toArray, List.getElem?_cons_succ, List.getElem?_cons_zero]; try rfl)
  case hq6 => exact fun _ _ _ h => h
  case hl6 => (simp only [List.setIfInBounds_toArray, List.set_cons_succ, List.set_cons_zero]; try rfl)
  case hw6 => rfl
  case hv6 =>
    intro W hW
    obtain ⟨k1, k2, d0, d1, d2, d3, d4, d5, d6⟩ := HFA.out W hW
    go_simp
    try with_reducible rfl
  case ha6 => (simp only [Act.put, List.setIfInBounds_toArray, List.set_cons_succ, List.set_cons_zero]; try rfl)
  refine rh_takeS (i := 7) (o := ?o7) (v := ?v7) (listed' := ?l7) (a' := ?a7) ?hi7 (by kernel_rfl) (by kernel_rfl) (by kernel_rfl) ?hq7 ?hl7 ?hw7 ?hv7 ?ha7 HS0.out ?hh7
  case hi7 => (simp only [List.getElem?_toArray, List.getElem?_cons_succ, List.getElem?_cons_zero]; try rfl)
  case hq7 => exact fun _ _ _ h => h
  case hl7 => (simp only [List.setIfInBounds_toArray, List.set_cons_succ, List.set_cons_zero]; try rfl)
  case hw7 => rfl
  case hv7 =>
    intro W hW
    obtain ⟨k1, k2, d0, d1, d2, d3, d4, d5, d6⟩ := HFA.out W hW
    go_simp
    try with_reducible rfl
  case ha7 => (simp only [Act.put, List.setIfInBounds_toArray, List.set_cons_succ, List.set_cons_zero]; try rfl)
  refine rh_takeS (i := 8) (o := ?o8) (v := ?v8) (listed' := ?l8) (a' := ?a8) ?hi8 (by kernel_rfl) (by kernel_rfl) (by kernel_rfl) ?hq8 ?hl8 ?hw8 ?hv8 ?ha8 HS0.out ?hh8
  case hi8 => (simp only [List.getElem?_toArray, List.getElem?_cons_succ, List.getElem?_cons_zero]; try rfl)
  case hq8 => exact fun _ _ _ h => h
  case hl8 => (simp only [List.setIfInBounds_toArray, List.set_cons_succ, List.set_cons_zero]; try rfl)
  case hw8 => rfl
  case hv8 =>
    intro W hW
    obtain ⟨k1, k2, d0, d1, d2, d3, d4, d5, d6⟩ := HFA.out W hW
    go_simp
    try with_reducible rfl
  case ha8 => (simp only [Act.put, List.setIfInBounds_toArray, List.set_cons_succ, List.set_cons_zero]; try rfl)
  refine wpAnyH_ready (rs := [4]) (by kernel_rfl) (by simp) ?_
  refine rh_cons (i := 4) (o := ?o9) (listed' := ?l9) ?hi9 ?hl9 ?hg9 ?hh9 ?hs9
  case hi9 => (simp only [List.getElem?_toArray, List.getElem?_cons_succ, List.getElem?_cons_zero]; try rfl)
  case hl9 => (simp only [List.setIfInBounds_toArray, List.set_cons_succ, List.set_cons_zero]; try rfl)
  case hg9 => rfl
  case hs9 => exact AllReadyH.nil
  intro K hK
  go_simp
  refine (cPred (HI.out.on HS0.out) HNN.out HL.out (HAL.out.on HS0.out) HS1.out a.y.e.c a.t ).mono ?_
  rintro z wa ⟨va, rfl, hv, hB⟩
  have HSa := hid (HS0.out.trans (hB.mono HS0.out.size))
  have HVa := hid (show Sl wa va (touchL xs a.y.e.c (fun y => aheadE y.e a.t)) from hv)
  clear hv hB
  refine hK.out _ _ HSa.out ?_
  clear hK K
  refine wpAnyH_ready (rs := [9]) (by kernel_rfl) (by simp) ?_
  refine rh_cons (i := 9) (o := ?o10) (listed' := ?l10) ?hi10 ?hl10 ?hg10 ?hh10 ?hs10
  case hi10 => (simp only [List.getElem?_toArray, List.getElem?_cons_succ, List.getElem?_cons_zero]; try rfl)
  case hl10 => (simp only [List.setIfInBounds_toArray, List.set_cons_succ, List.set_cons_zero]; try rfl)
  case hg10 => rfl
  case hs10 => exact AllReadyH.nil
  intro K hK
  go_simp
  refine (rPred (HR.out.on HSa.out) HL.out (HAL.out.on HSa.out) HS1.out a.y.e.c a.t ).mono ?_
  rintro z wb ⟨vb, rfl, hv, hB⟩
  have HSb := hid (HSa.out.trans (hB.mono HSa.out.size))
  have HVb := hid (show Sl wb vb (touchL xs a.y.e.c (fun y => aheadE y.e a.t)) from hv)
  have HVc := hid (HVa.out.on hB)
  clear hv hB
  refine hK.out _ _ HSb.out ?_
  clear hK K
  refine wpAnyH_ready (rs := [10]) (by kernel_rfl) (by simp) ?_
  refine rh_cons (i := 10) (o := ?o11) (listed' := ?l11) ?hi11 ?hl11 ?hg11 ?hh11 ?hs11
  case hi11 => (simp only [List.getElem?_toArray, List.getElem?_cons_succ, List.getElem?_cons_zero]; try rfl)
  case hl11 => (simp only [List.setIfInBounds_toArray, List.set_cons_succ, List.set_cons_zero]; try rfl)
  case hg11 => rfl
  case hs11 => exact AllReadyH.nil
  intro K hK
  have hq := rSame HVc.out HVb.out (show (touchL xs a.y.e.c (fun y => aheadE y.e a.t)).length ≤ 100000 from by have := touch_len xs a.y.e.c (fun y => aheadE y.e a.t); have := HL.out; omega) (show (touchL xs a.y.e.c (fun y => aheadE y.e a.t)).length ≤ 100000 from by have := touch_len xs a.y.e.c (fun y => aheadE y.e a.t); have := HL.out; omega)
  rw [sameB_self] at hq
  go_simp
  refine hq.mono ?_
  rintro z V3 ⟨rfl, hB⟩
  have HV3 := hid (HSb.out.trans (hB.mono HSb.out.size))
  clear hq hB
  refine hK.out _ _ HV3.out ?_
  clear hK K
  refine rh_takeS (i := 11) (o := ?o12) (v := ?v12) (listed' := ?l12) (a' := ?a12) ?hi12 (by kernel_rfl) (by kernel_rfl) (by kernel_rfl) ?hq12 ?hl12 ?hw12 ?hv12 ?ha12 HV3.out ?hh12
  case hi12 => (simp only [List.getElem?_toArray, List.getElem?_cons_succ, List.getElem?_cons_zero]; try rfl)
  case hq12 => exact fun _ _ _ h => h
  case hl12 => (simp only [List.setIfInBounds_toArray, List.set_cons_succ, List.set_cons_zero]; try rfl)
  case hw12 => rfl
  case hv12 =>
    intro W hW
    obtain ⟨k1, k2, d0, d1, d2, d3, d4, d5, d6⟩ := HFA.out W hW
    go_simp
    try with_reducible rfl
  case ha12 => (simp only [Act.put, List.setIfInBounds_toArray, List.set_cons_succ, List.set_cons_zero]; try rfl)
  refine wpAnyH_done (by kernel_rfl) ?_ _
  clear HS0 HSa HSb HVa HVb HVc
  skip
  go_wp2_with fail
  skip
  refine rh_start (S := fun W => Below W0.heap.size W0 W) (n := 12) (listed := #[false, false, false, false, false, false, false, false, false, false, false, false]) (by kernel_rfl) rfl rfl ?_
  have HS0 : Hid (Below W0.heap.size W0 V3.drew) := hid (belowDrew HV3.out)
  generalize World.drew V3 = wd at HS0 ⊢
  refine rh_takeS (i := 0) (o := ?o13) (v := ?v13) (listed' := ?l13) (a' := ?a13) ?hi13 (by kernel_rfl) (by kernel_rfl) (by kernel_rfl) ?hq13 ?hl13 ?hw13 ?hv13 ?ha13 HS0.out ?hh13
  case hi13 => (simp only [List.getElem?_toArray, List.getElem?_cons_zero]; try rfl)
  case hq13 => exact fun _ _ _ h => h
  case hl13 => (simp only [List.setIfInBounds_toArray, List.set_cons_zero]; try rfl)
  case hw13 => rfl
  case hv13 =>
    intro W hW
    obtain ⟨k1, k2, d0, d1, d2, d3, d4, d5, d6⟩ := HFA.out W hW
    go_simp
    try with_reducible rfl
  case ha13 => (simp only [Act.put, List.setIfInBounds_toArray, List.set_cons_succ, List.set_cons_zero]; try rfl)
  refine rh_takeS (i := 1) (o := ?o14) (v := ?v14) (listed' := ?l14) (a' := ?a14) ?hi14 (by kernel_rfl) (by kernel_rfl) (by kernel_rfl) ?hq14 ?hl14 ?hw14 ?hv14 ?ha14 HS0.out ?hh14
  case hi14 => (simp only [List.getElem?_toArray, List.getElem?_cons_succ, List.getElem?_cons_zero]; try rfl)
  case hq14 => exact fun _ _ _ h => h
  case hl14 => (simp only [List.setIfInBounds_toArray, List.set_cons_succ, List.set_cons_zero]; try rfl)
  case hw14 => rfl
  case hv14 =>
    intro W hW
    obtain ⟨k1, k2, d0, d1, d2, d3, d4, d5, d6⟩ := HFA.out W hW
    go_simp
    try with_reducible rfl
  case ha14 => (simp only [Act.put, List.setIfInBounds_toArray, List.set_cons_succ, List.set_cons_zero]; try rfl)
  refine rh_takeS (i := 2) (o := ?o15) (v := ?v15) (listed' := ?l15) (a' := ?a15) ?hi15 (by kernel_rfl) (by kernel_rfl) (by kernel_rfl) ?hq15 ?hl15 ?hw15 ?hv15 ?ha15 HS0.out ?hh15
  case hi15 => (simp only [List.getElem?_toArray, List.getElem?_cons_succ, List.getElem?_cons_zero]; try rfl)
  case hq15 => exact fun _ _ _ h => h
  case hl15 => (simp only [List.setIfInBounds_toArray, List.set_cons_succ, List.set_cons_zero]; try rfl)
  case hw15 => rfl
  case hv15 =>
    intro W hW
    obtain ⟨k1, k2, d0, d1, d2, d3, d4, d5, d6⟩ := HFA.out W hW
    go_simp
    try with_reducible rfl
  case ha15 => (simp only [Act.put, List.setIfInBounds_toArray, List.set_cons_succ, List.set_cons_zero]; try rfl)
  refine rh_takeS (i := 3) (o := ?o16) (v := ?v16) (listed' := ?l16) (a' := ?a16) ?hi16 (by kernel_rfl) (by kernel_rfl) (by kernel_rfl) ?hq16 ?hl16 ?hw16 ?hv16 ?ha16 HS0.out ?hh16
  case hi16 => (simp only [List.getElem?_toArray, List.getElem?_cons_succ, List.getElem?_cons_zero]; try rfl)
  case hq16 => exact fun _ _ _ h => h
  case hl16 => (simp only [List.setIfInBounds_toArray, List.set_cons_succ, List.set_cons_zero]; try rfl)
  case hw16 => rfl
  case hv16 =>
    intro W hW
    obtain ⟨k1, k2, d0, d1, d2, d3, d4, d5, d6⟩ := HFA.out W hW
    go_simp
    try with_reducible rfl
  case ha16 => (simp only [Act.put, List.setIfInBounds_toArray, List.set_cons_succ, List.set_cons_zero]; try rfl)
  refine rh_takeS (i := 5) (o := ?o17) (v := ?v17) (listed' := ?l17) (a' := ?a17) ?hi17 (by kernel_rfl) (by kernel_rfl) (by kernel_rfl) ?hq17 ?hl17 ?hw17 ?hv17 ?ha17 HS0.out ?hh17
  case hi17 => (simp only [List.getElem?_toArray, List.getElem?_cons_succ, List.getElem?_cons_zero]; try rfl)
  case hq17 => exact fun _ _ _ h => h
  case hl17 => (simp only [List.setIfInBounds_toArray, List.set_cons_succ, List.set_cons_zero]; try rfl)
  case hw17 => rfl
  case hv17 =>
    intro W hW
    obtain ⟨k1, k2, d0, d1, d2, d3, d4, d5, d6⟩ := HFA.out W hW
    go_simp
    try with_reducible rfl
  case ha17 => (simp only [Act.put, List.setIfInBounds_toArray, List.set_cons_succ, List.set_cons_zero]; try rfl)
  refine rh_takeS (i := 6) (o := ?o18) (v := ?v18) (listed' := ?l18) (a' := ?a18) ?hi18 (by kernel_rfl) (by kernel_rfl) (by kernel_rfl) ?hq18 ?hl18 ?hw18 ?hv18 ?ha18 HS0.out ?hh18
  case hi18 => (simp only [List.getElem?_toArray, List.getElem?_cons_succ, List.getElem?_cons_zero]; try rfl)
  case hq18 => exact fun _ _ _ h => h
  case hl18 => (simp only [List.setIfInBounds_toArray, List.set_cons_succ, List.set_cons_zero]; try rfl)
  case hw18 => rfl
  case hv18 =>
    intro W hW
    obtain ⟨k1, k2, d0, d1, d2, d3, d4, d5, d6⟩ := HFA.out W hW
    go_simp
    try with_reducible rfl
  case ha18 => (simp only [Act.put, List.setIfInBounds_toArray, List.set_cons_succ, List.set_cons_zero]; try rfl)
  refine rh_takeS (i := 7) (o := ?o19) (v := ?v19) (listed' := ?l19) (a' := ?a19) ?hi19 (by kernel_rfl) (by kernel_rfl) (by kernel_rfl) ?hq19 ?hl19 ?hw19 ?hv19 ?ha19 HS0.out ?hh19
  case hi19 => (simp only [List.getElem?_toArray, List.getElem?_cons_succ, List.getElem?_cons_zero]; try rfl)
  case hq19 => exact fun _ _ _ h => h
  case hl19 => (simp only [List.setIfInBounds_toArray, List.set_cons_succ, List.set_cons_zero]; try rfl)
  case hw19 => rfl
  case hv19 =>
    intro W hW
    obtain ⟨k1, k2, d0, d1, d2, d3, d4, d5, d6⟩ := HFA.out W hW
    go_simp
    try with_reducible rfl
  case ha19 => (simp only [Act.put, List.setIfInBounds_toArray, List.set_cons_succ, List.set_cons_zero]; try rfl)
  refine rh_takeS (i := 8) (o := ?o20) (v := ?v20) (listed' := ?l20) (a' := ?a20) ?hi20 (by kernel_rfl) (by kernel_rfl) (by kernel_rfl) ?hq20 ?hl20 ?hw20 ?hv20 ?ha20 HS0.out ?hh20
  case hi20 => (simp only [List.getElem?_toArray, List.getElem?_cons_succ, List.getElem?_cons_zero]; try rfl)
  case hq20 => exact fun _ _ _ h => h
  case hl20 => (simp only [List.setIfInBounds_toArray, List.set_cons_succ, List.set_cons_zero]; try rfl)
  case hw20 => rfl
  case hv20 =>
    intro W hW
    obtain ⟨k1, k2, d0, d1, d2, d3, d4, d5, d6⟩ := HFA.out W hW
    go_simp
    try with_reducible rfl
  case ha20 => (simp only [Act.put, List.setIfInBounds_toArray, List.set_cons_succ, List.set_cons_zero]; try rfl)
  refine wpAnyH_ready (rs := [4]) (by kernel_rfl) (by simp) ?_
  refine rh_cons (i := 4) (o := ?o21) (listed' := ?l21) ?hi21 ?hl21 ?hg21 ?hh21 ?hs21
  case hi21 => (simp only [List.getElem?_toArray, List.getElem?_cons_succ, List.getElem?_cons_zero]; try rfl)
  case hl21 => (simp only [List.setIfInBounds_toArray, List.set_cons_succ, List.set_cons_zero]; try rfl)
  case hg21 => rfl
  case hs21 => exact AllReadyH.nil
  intro K hK
  go_simp
  refine (cHolders (HI.out.on HS0.out) HNN.out HL.out (HAL.out.on HS0.out) HS1.out a.y.e.c a.t ).mono ?_
  rintro z wa ⟨va, rfl, hv, hB⟩
  have HSa := hid (HS0.out.trans (hB.mono HS0.out.size))
  have HVa := hid (show SlI wa va (idsL (touchL xs a.y.e.c (fun y => holdsE y.e a.t))) from OwnI.sl hv)
  clear hv hB
  refine hK.out _ _ HSa.out ?_
  clear hK K
  refine wpAnyH_ready (rs := [9]) (by kernel_rfl) (by simp) ?_
  refine rh_cons (i := 9) (o := ?o22) (listed' := ?l22) ?hi22 ?hl22 ?hg22 ?hh22 ?hs22
  case hi22 => (simp only [List.getElem?_toArray, List.getElem?_cons_succ, List.getElem?_cons_zero]; try rfl)
  case hl22 => (simp only [List.setIfInBounds_toArray, List.set_cons_succ, List.set_cons_zero]; try rfl)
  case hg22 => rfl
  case hs22 => exact AllReadyH.nil
  intro K hK
  go_simp
  refine (rHolders (HR.out.on HSa.out) HL.out (HAL.out.on HSa.out) HS1.out a.y.e.c a.t ).mono ?_
  rintro z wb ⟨vb, rfl, hv, hB⟩
  have HSb := hid (HSa.out.trans (hB.mono HSa.out.size))
  have HVb := hid (show SlI wb vb (idsL (touchL xs a.y.e.c (fun y => holdsE y.e a.t))) from OwnI.sl hv)
  have HVc := hid (HVa.out.on hB)
  clear hv hB
  refine hK.out _ _ HSb.out ?_
  clear hK K
  refine wpAnyH_ready (rs := [10]) (by kernel_rfl) (by simp) ?_
  refine rh_cons (i := 10) (o := ?o23) (listed' := ?l23) ?hi23 ?hl23 ?hg23 ?hh23 ?hs23
  case hi23 => (simp only [List.getElem?_toArray, List.getElem?_cons_succ, List.getElem?_cons_zero]; try rfl)
  case hl23 => (simp only [List.setIfInBounds_toArray, List.set_cons_succ, List.set_cons_zero]; try rfl)
  case hg23 => rfl
  case hs23 => exact AllReadyH.nil
  intro K hK
  have hq := rSameIds HVc.out HVb.out (show (idsL (touchL xs a.y.e.c (fun y => holdsE y.e a.t))).length ≤ 100000 from by have := touch_len xs a.y.e.c (fun y => holdsE y.e a.t); have := HL.out; unfold idsL; rw [List.length_map]; omega)
  go_simp
  refine hq.mono ?_
  rintro z V4 ⟨rfl, hB⟩
  have HV4 := hid (HSb.out.trans (hB.mono HSb.out.size))
  clear hq hB
  refine hK.out _ _ HV4.out ?_
  clear hK K
  refine rh_takeS (i := 11) (o := ?o24) (v := ?v24) (listed' := ?l24) (a' := ?a24) ?hi24 (by kernel_rfl) (by kernel_rfl) (by kernel_rfl) ?hq24 ?hl24 ?hw24 ?hv24 ?ha24 HV4.out ?hh24
  case hi24 => (simp only [List.getElem?_toArray, List.getElem?_cons_succ, List.getElem?_cons_zero]; try rfl)
  case hq24 => exact fun _ _ _ h => h
  case hl24 => (simp only [List.setIfInBounds_toArray, List.set_cons_succ, List.set_cons_zero]; try rfl)
  case hw24 => rfl
  case hv24 =>
    intro W hW
    obtain ⟨k1, k2, d0, d1, d2, d3, d4, d5, d6⟩ := HFA.out W hW
    go_simp
    try with_reducible rfl
  case ha24 => (simp only [Act.put, List.setIfInBounds_toArray, List.set_cons_succ, List.set_cons_zero]; try rfl)
  refine wpAnyH_done (by kernel_rfl) ?_ _
  clear HS0 HSa HSb HVa HVb HVc
  skip
  go_wp2_with fail
  skip
  refine rh_start (S := fun W => Below W0.heap.size W0 W) (n := 12) (listed := #[false, false, false, false, false, false, false, false, false, false, false, false]) (by kernel_rfl) rfl rfl ?_
  have HS0 : Hid (Below W0.heap.size W0 V4.drew) := hid (belowDrew HV4.out)
  generalize World.drew V4 = wd at HS0 ⊢
  refine rh_takeS (i := 0) (o := ?o25) (v := ?v25) (listed' := ?l25) (a' := ?a25) ?hi25 (by kernel_rfl) (by kernel_rfl) (by kernel_rfl) ?hq25 ?hl25 ?hw25 ?hv25 ?ha25 HS0.out ?hh25
  case hi25 => (simp only [List.getElem?_toArray, List.getElem?_cons_zero]; try rfl)
  case hq25 => exact fun _ _ _ h => h
  case hl25 => (simp only [List.setIfInBounds_toArray, List.set_cons_zero]; try rfl)
  case hw25 => rfl
  case hv25 =>
    intro W hW
    obtain ⟨k1, k2, d0, d1, d2, d3, d4, d5, d6⟩ := HFA.out W hW
    go_simp
    try with_reducible rfl
  case ha25 => (simp only [Act.put, List.setIfInBounds_toArray, List.set_cons_succ, List.set_cons_zero]; try rfl)
  refine rh_takeS (i := 1) (o := ?o26) (v := ?v26) (listed' := ?l26) (a' := ?a26) ?hi26 (by kernel_rfl) (by kernel_rfl) (by kernel_rfl) ?hq26 ?hl26 ?hw26 ?hv26 ?ha26 HS0.out ?hh26
  case hi26 => (simp only [List.getElem?_toArray, List.getElem?_cons_succ, List.getElem?_cons_zero]; try rfl)
  case hq26 => exact fun _ _ _ h => h
  case hl26 => (simp only [List.setIfInBounds_toArray, List.set_cons_succ, List.set_cons_zero]; try rfl)
  case hw26 => rfl
  case hv26 =>
    intro W hW
    obtain ⟨k1, k2, d0, d1, d2, d3, d4, d5, d6⟩ := HFA.out W hW
    go_simp
    try with_reducible rfl
  case ha26 => (simp only [Act.put, List.setIfInBounds_toArray, List.set_cons_succ, List.set_cons_zero]; try rfl)
  refine rh_takeS (i := 2) (o := ?o27) (v := ?v27) (listed' := ?l27) (a' := ?a27) ?hi27 (by kernel_rfl) (by kernel_rfl) (by kernel_rfl) ?hq27 ?hl27 ?hw27 ?hv27 ?ha27 HS0.out ?hh27
  case hi27 => (simp only [List.getElem?_toArray, List.getElem?_cons_succ, List.getElem?_cons_zero]; try rfl)
  case hq27 => exact fun _ _ _ h => h
  case hl27 => (simp only [List.setIfInBounds_toArray, List.set_cons_succ, List.set_cons_zero]; try rfl)
  case hw27 => rfl
  case hv27 =>
    intro W hW
    obtain ⟨k1, k2, d0, d1, d2, d3, d4, d5, d6⟩ := HFA.out W hW
    go_simp
    try with_reducible rfl
  case ha27 => (simp only [Act.put, List.setIfInBounds_toArray, List.set_cons_succ, List.set_cons_zero]; try rfl)
  refine rh_takeS (i := 3) (o := ?o28) (v := ?v28) (listed' := ?l28) (a' := ?a28) ?hi28 (by kernel_rfl) (by kernel_rfl) (by kernel_rfl) ?hq28 ?hl28 ?hw28 ?hv28 ?ha28 HS0.out ?hh28
  case hi28 => (simp only [List.getElem?_toArray, List.getElem?_cons_succ, List.getElem?_cons_zero]; try rfl)
  case hq28 => exact fun _ _ _ h => h
  case hl28 => (simp only [List.setIfInBounds_toArray, List.set_cons_succ, List.set_cons_zero]; try rfl)
  case hw28 => rfl
  case hv28 =>
    intro W hW
    obtain ⟨k1, k2, d0, d1, d2, d3, d4, d5, d6⟩ := HFA.out W hW
    go_simp
    try with_reducible rfl
  case ha28 => (simp only [Act.put, List.setIfInBounds_toArray, List.set_cons_succ, List.set_cons_zero]; try rfl)
  refine rh_takeS (i := 5) (o := ?o29) (v := ?v29) (listed' := ?l29) (a' := ?a29) ?hi29 (by kernel_rfl) (by kernel_rfl) (by kernel_rfl) ?hq29 ?hl29 ?hw29 ?hv29 ?ha29 HS0.out ?hh29
  case hi29 => (simp only [List.getElem?_toArray, List.getElem?_cons_succ, List.getElem?_cons_zero]; try rfl)
  case hq29 => exact fun _ _ _ h => h
  case hl29 => (simp only [List.setIfInBounds_toArray, List.set_cons_succ, List.set_cons_zero]; try rfl)
  case hw29 => rfl
  case hv29 =>
    intro W hW
    obtain ⟨k1, k2, d0, d1, d2, d3, d4, d5, d6⟩ := HFA.out W hW
    go_simp
    try with_reducible rfl
  case ha29 => (simp only [Act.put, List.setIfInBounds_toArray, List.set_cons_succ, List.set_cons_zero]; try rfl)
  refine rh_takeS (i := 6) (o := ?o30) (v := ?v30) (listed' := ?l30) (a' := ?a30) ?hi30 (by kernel_rfl) (by kernel_rfl) (by kernel_rfl) ?hq30 ?hl30 ?hw30 ?hv30 ?ha30 HS0.out ?hh30
  case hi30 => (simp only [List.getElem?_toArray, List.getElem?_cons_succ, List.getElem?_cons_zero]; try rfl)
  case hq30 => exact fun _ _ _ h => h
  case hl30 => (simp only [List.setIfInBounds_toArray, List.set_cons_succ, List.set_cons_zero]; try rfl)
  case hw30 => rfl
  case hv30 =>
    intro W hW
    obtain ⟨k1, k2, d0, d1, d2, d3, d4, d5, d6⟩ := HFA.out W hW
    go_simp
    try with_reducible rfl
  case ha30 => (simp only [Act.put, List.setIfInBounds_toArray, List.set_cons_succ, List.set_cons_zero]; try rfl)
  refine rh_takeS (i := 7) (o := ?o31) (v := ?v31) (listed' := ?l31) (a' := ?a31) ?hi31 (by kernel_rfl) (by kernel_rfl) (by kernel_rfl) ?hq31 ?hl31 ?hw31 ?hv31 ?ha31 HS0.out ?hh31
  case hi31 => (simp only [List.getElem?_toArray, List.getElem?_cons_succ, List.getElem?_cons_zero]; try rfl)
  case hq31 => exact fun _ _ _ h => h
  case hl31 => (simp only [List.setIfInBounds_toArray, List.set_cons_succ, List.set_cons_zero]; try rfl)
  case hw31 => rfl
  case hv31 =>
    intro W hW
    obtain ⟨k1, k2, d0, d1, d2, d3, d4, d5, d6⟩ := HFA.out W hW
    go_simp
    try with_reducible rfl
  case ha31 => (simp only [Act.put, List.setIfInBounds_toArray, List.set_cons_succ, List.set_cons_zero]; try rfl)
  refine rh_takeS (i := 8) (o := ?o32) (v := ?v32) (listed' := ?l32) (a' := ?a32) ?hi32 (by kernel_rfl) (by kernel_rfl) (by kernel_rfl) ?hq32 ?hl32 ?hw32 ?hv32 ?ha32 HS0.out ?hh32
  case hi32 => (simp only [List.getElem?_toArray, List.getElem?_cons_succ, List.getElem?_cons_zero]; try rfl)
  case hq32 => exact fun _ _ _ h => h
  case hl32 => (simp only [List.setIfInBounds_toArray, List.set_cons_succ, List.set_cons_zero]; try rfl)
  case hw32 => rfl
  case hv32 =>
    intro W hW
    obtain ⟨k1, k2, d0, d1, d2, d3, d4, d5, d6⟩ := HFA.out W hW
    go_simp
    try with_reducible rfl
  case ha32 => (simp only [Act.put, List.setIfInBounds_toArray, List.set_cons_succ, List.set_cons_zero]; try rfl)
  refine wpAnyH_ready (rs := [4]) (by kernel_rfl) (by simp) ?_
  refine rh_cons (i := 4) (o := ?o33) (listed' := ?l33) ?hi33 ?hl33 ?hg33 ?hh33 ?hs33
  case hi33 => (simp only [List.getElem?_toArray, List.getElem?_cons_succ, List.getElem?_cons_zero]; try rfl)
  case hl33 => (simp only [List.setIfInBounds_toArray, List.set_cons_succ, List.set_cons_zero]; try rfl)
  case hg33 => rfl
  case hs33 => exact AllReadyH.nil
  intro K hK
  go_simp
  refine (cKillers (HI.out.on HS0.out) HNN.out HL.out (HAL.out.on HS0.out) HS1.out a.y.e.c a.t ).mono ?_
  rintro z wa ⟨va, rfl, hv, hB⟩
  have HSa := hid (HS0.out.trans (hB.mono HS0.out.size))
  have HVa := hid (show SlI wa va (idsL (touchL xs a.y.e.c (killB a.t a.y.e.c.i))) from OwnI.sl hv)
  clear hv hB
  refine hK.out _ _ HSa.out ?_
  clear hK K
  refine wpAnyH_ready (rs := [9]) (by kernel_rfl) (by simp) ?_
  refine rh_cons (i := 9) (o := ?o34) (listed' := ?l34) ?hi34 ?hl34 ?hg34 ?hh34 ?hs34
  case hi34 => (simp only [List.getElem?_toArray, List.getElem?_cons_succ, List.getElem?_cons_zero]; try rfl)
  case hl34 => (simp only [List.setIfInBounds_toArray, List.set_cons_succ, List.set_cons_zero]; try rfl)
  case hg34 => rfl
  case hs34 => exact AllReadyH.nil
  intro K hK
  go_simp
  refine (rKillers (HR.out.on HSa.out) HL.out (HAL.out.on HSa.out) HS1.out a.y.e.c a.t ).mono ?_
  rintro z wb ⟨vb, rfl, hv, hB⟩
  have HSb := hid (HSa.out.trans (hB.mono HSa.out.size))
  have HVb := hid (show SlI wb vb (idsL (touchL xs a.y.e.c (killB a.t a.y.e.c.i))) from OwnI.sl hv)
  have HVc := hid (HVa.out.on hB)
  clear hv hB
  refine hK.out _ _ HSb.out ?_
  clear hK K
  refine wpAnyH_ready (rs := [10]) (by kernel_rfl) (by simp) ?_
  refine rh_cons (i := 10) (o := ?o35) (listed' := ?l35) ?hi35 ?hl35 ?hg35 ?hh35 ?hs35
  case hi35 => (simp only [List.getElem?_toArray, List.getElem?_cons_succ, List.getElem?_cons_zero]; try rfl)
  case hl35 => (simp only [List.setIfInBounds_toArray, List.set_cons_succ, List.set_cons_zero]; try rfl)
  case hg35 => rfl
  case hs35 => exact AllReadyH.nil
  intro K hK
  have hq := rSameIds HVc.out HVb.out (show (idsL (touchL xs a.y.e.c (killB a.t a.y.e.c.i))).length ≤ 100000 from by have := touch_len xs a.y.e.c (killB a.t a.y.e.c.i); have := HL.out; unfold idsL; rw [List.length_map]; omega)
  go_simp
  refine hq.mono ?_
  rintro z V5 ⟨rfl, hB⟩
  have HV5 := hid (HSb.out.trans (hB.mono HSb.out.size))
  clear hq hB
  refine hK.out _ _ HV5.out ?_
  clear hK K
  refine rh_takeS (i := 11) (o := ?o36) (v := ?v36) (listed' := ?l36) (a' := ?a36) ?hi36 (by kernel_rfl) (by kernel_rfl) (by kernel_rfl) ?hq36 ?hl36 ?hw36 ?hv36 ?ha36 HV5.out ?hh36
  case hi36 => (simp only [List.getElem?_toArray, List.getElem?_cons_succ, List.getElem?_cons_zero]; try rfl)
  case hq36 => exact fun _ _ _ h => h
  case hl36 => (simp only [List.setIfInBounds_toArray, List.set_cons_succ, List.set_cons_zero]; try rfl)
  case hw36 => rfl
  case hv36 =>
    intro W hW
    obtain ⟨k1, k2, d0, d1, d2, d3, d4, d5, d6⟩ := HFA.out W hW
    go_simp
    try with_reducible rfl
  case ha36 => (simp only [Act.put, List.setIfInBounds_toArray, List.set_cons_succ, List.set_cons_zero]; try rfl)
  refine wpAnyH_done (by kernel_rfl) ?_ _
  clear HS0 HSa HSb HVa HVb HVc
  skip
  go_wp2_with fail
  skip
  refine rh_start (S := fun W => Below W0.heap.size W0 W) (n := 16) (listed := #[false, false, false, false, false, false, false, false, false, false, false, false, false, false, false, false]) (by kernel_rfl) rfl rfl ?_
  have HS0 : Hid (Below W0.heap.size W0 V5.drew) := hid (belowDrew HV5.out)
  generalize World.drew V5 = wd at HS0 ⊢
  refine rh_takeS (i := 0) (o := ?o37) (v := ?v37) (listed' := ?l37) (a' := ?a37) ?hi37 (by kernel_rfl) (by kernel_rfl) (by kernel_rfl) ?hq37 ?hl37 ?hw37 ?hv37 ?ha37 HS0.out ?hh37
  case hi37 => (simp only [List.getElem?_toArray, List.getElem?_cons_zero]; try rfl)
  case hq37 => exact fun _ _ _ h => h
  case hl37 => (simp only [List.setIfInBounds_toArray, List.set_cons_zero]; try rfl)
  case hw37 => rfl
  case hv37 =>
    intro W hW
    obtain ⟨k1, k2, d0, d1, d2, d3, d4, d5, d6⟩ := HFA.out W hW
    go_simp
    try with_reducible rfl
  case ha37 => (simp only [Act.put, List.setIfInBounds_toArray, List.set_cons_succ, List.set_cons_zero]; try rfl)
  refine rh_takeS (i := 1) (o := ?o38) (v := ?v38) (listed' := ?l38) (a' := ?a38) ?hi38 (by kernel_rfl) (by kernel_rfl) (by kernel_rfl) ?hq38 ?hl38 ?hw38 ?hv38 ?ha38 HS0.out ?hh38
  case hi38 => (simp only [List.getElem?_toArray, List.getElem?_cons_succ, List.getElem?_cons_zero]; try rfl)
  case hq38 => exact fun _ _ _ h => h
  case hl38 => (simp only [List.setIfInBounds_toArray, List.set_cons_succ, List.set_cons_zero]; try rfl)
  case hw38 => rfl
  case hv38 =>
    intro W hW
    obtain ⟨k1, k2, d0, d1, d2, d3, d4, d5, d6⟩ := HFA.out W hW
    go_simp
    try with_reducible rfl
  case ha38 => (simp only [Act.put, List.setIfInBounds_toArray, List.set_cons_succ, List.set_cons_zero]; try rfl)
  refine rh_takeS (i := 2) (o := ?o39) (v := ?v39) (listed' := ?l39) (a' := ?a39) ?hi39 (by kernel_rfl) (by kernel_rfl) (by kernel_rfl) ?hq39 ?hl39 ?hw39 ?hv39 ?ha39 HS0.out ?hh39
  case hi39 => (simp only [List.getElem?_toArray, List.getElem?_cons_succ, List.getElem?_cons_zero]; try rfl)
  case hq39 => exact fun _ _ _ h => h
  case hl39 => (simp only [List.setIfInBounds_toArray, List.set_cons_succ, List.set_cons_zero]; try rfl)
  case hw39 => rfl
  case hv39 =>
    intro W hW
    obtain ⟨k1, k2, d0, d1, d2, d3, d4, d5, d6⟩ := HFA.out W hW
    go_simp
    try with_reducible rfl
  case ha39 => (simp only [Act.put, List.setIfInBounds_toArray, List.set_cons_succ, List.set_cons_zero]; try rfl)
  refine rh_takeS (i := 3) (o := ?o40) (v := ?v40) (listed' := ?l40) (a' := ?a40) ?hi40 (by kernel_rfl) (by kernel_rfl) (by kernel_rfl) ?hq40 ?hl40 ?hw40 ?hv40 ?ha40 HS0.out ?hh40
  case hi40 => (simp only [List.getElem?_toArray, List.getElem?_cons_succ, List.getElem?_cons_zero]; try rfl)
  case hq40 => exact fun _ _ _ h => h
  case hl40 => (simp only [List.setIfInBounds_toArray, List.set_cons_succ, List.set_cons_zero]; try rfl)
  case hw40 => rfl
  case hv40 =>
    intro W hW
    obtain ⟨k1, k2, d0, d1, d2, d3, d4, d5, d6⟩ := HFA.out W hW
    go_simp
    try with_reducible rfl
  case ha40 => (simp only [Act.put, List.setIfInBounds_toArray, List.set_cons_succ, List.set_cons_zero]; try rfl)
  refine rh_takeS (i := 4) (o := ?o41) (v := ?v41) (listed' := ?l41) (a' := ?a41) ?hi41 (by kernel_rfl) (by kernel_rfl) (by kernel_rfl) ?hq41 ?hl41 ?hw41 ?hv41 ?ha41 HS0.out ?hh41
  case hi41 => (simp only [List.getElem?_toArray, List.getElem?_cons_succ, List.getElem?_cons_zero]; try rfl)
  case hq41 => exact fun _ _ _ h => h
  case hl41 => (simp only [List.setIfInBounds_toArray, List.set_cons_succ, List.set_cons_zero]; try rfl)
  case hw41 => rfl
  case hv41 =>
    intro W hW
    obtain ⟨k1, k2, d0, d1, d2, d3, d4, d5, d6⟩ := HFA.out W hW
    go_simp
    try with_reducible rfl
  case ha41 => (simp only [Act.put, List.setIfInBounds_toArray, List.set_cons_succ, List.set_cons_zero]; try rfl)
  refine rh_takeS (i := 5) (o := ?o42) (v := ?v42) (listed' := ?l42) (a' := ?a42) ?hi42 (by kernel_rfl) (by kernel_rfl) (by kernel_rfl) ?hq42 ?hl42 ?hw42 ?hv42 ?ha42 HS0.out ?hh42
  case hi42 => (simp only [List.getElem?_toArray, List.getElem?_cons_succ, List.getElem?_cons_zero]; try rfl)
  case hq42 => exact fun _ _ _ h => h
  case hl42 => (simp only [List.setIfInBounds_toArray, List.set_cons_succ, List.set_cons_zero]; try rfl)
  case hw42 => rfl
  case hv42 =>
    intro W hW
    obtain ⟨k1, k2, d0, d1, d2, d3, d4, d5, d6⟩ := HFA.out W hW
    go_simp
    try with_reducible rfl
  case ha42 => (simp only [Act.put, List.setIfInBounds_toArray, List.set_cons_succ, List.set_cons_zero]; try rfl)
  refine rh_takeS (i := 7) (o := ?o43) (v := ?v43) (listed' := ?l43) (a' := ?a43) ?hi43 (by kernel_rfl) (by kernel_rfl) (by kernel_rfl) ?hq43 ?hl43 ?hw43 ?hv43 ?ha43 HS0.out ?hh43
  case hi43 => (simp only [List.getElem?_toArray, List.getElem?_cons_succ, List.getElem?_cons_zero]; try rfl)
  case hq43 => exact fun _ _ _ h => h
  case hl43 => (simp only [List.setIfInBounds_toArray, List.set_cons_succ, List.set_cons_zero]; try rfl)
  case hw43 => rfl
  case hv43 =>
    intro W hW
    obtain ⟨k1, k2, d0, d1, d2, d3, d4, d5, d6⟩ := HFA.out W hW
    go_simp
    try with_reducible rfl
  case ha43 => (simp only [Act.put, List.setIfInBounds_toArray, List.set_cons_succ, List.set_cons_zero]; try rfl)
  refine rh_takeS (i := 8) (o := ?o44) (v := ?v44) (listed' := ?l44) (a' := ?a44) ?hi44 (by kernel_rfl) (by kernel_rfl) (by kernel_rfl) ?hq44 ?hl44 ?hw44 ?hv44 ?ha44 HS0.out ?hh44
  case hi44 => (simp only [List.getElem?_toArray, List.getElem?_cons_succ, List.getElem?_cons_zero]; try rfl)
  case hq44 => exact fun _ _ _ h => h
  case hl44 => (simp only [List.setIfInBounds_toArray, List.set_cons_succ, List.set_cons_zero]; try rfl)
  case hw44 => rfl
  case hv44 =>
    intro W hW
    obtain ⟨k1, k2, d0, d1, d2, d3, d4, d5, d6⟩ := HFA.out W hW
    go_simp
    try with_reducible rfl
  case ha44 => (simp only [Act.put, List.setIfInBounds_toArray, List.set_cons_succ, List.set_cons_zero]; try rfl)
  refine rh_takeS (i := 9) (o := ?o45) (v := ?v45) (listed' := ?l45) (a' := ?a45) ?hi45 (by kernel_rfl) (by kernel_rfl) (by kernel_rfl) ?hq45 ?hl45 ?hw45 ?hv45 ?ha45 HS0.out ?hh45
  case hi45 => (simp only [List.getElem?_toArray, List.getElem?_cons_succ, List.getElem?_cons_zero]; try rfl)
  case hq45 => exact fun _ _ _ h => h
  case hl45 => (simp only [List.setIfInBounds_toArray, List.set_cons_succ, List.set_cons_zero]; try rfl)
  case hw45 => rfl
  case hv45 =>
    intro W hW
    obtain ⟨k1, k2, d0, d1, d2, d3, d4, d5, d6⟩ := HFA.out W hW
    go_simp
    try with_reducible rfl
  case ha45 => (simp only [Act.put, List.setIfInBounds_toArray, List.set_cons_succ, List.set_cons_zero]; try rfl)
  refine rh_takeS (i := 10) (o := ?o46) (v := ?v46) (listed' := ?l46) (a' := ?a46) ?hi46 (by kernel_rfl) (by kernel_rfl) (by kernel_rfl) ?hq46 ?hl46 ?hw46 ?hv46 ?ha46 HS0.out ?hh46
  case hi46 => (simp only [List.getElem?_toArray, List.getElem?_cons_succ, List.getElem?_cons_zero]; try rfl)
  case hq46 => exact fun _ _ _ h => h
  case hl46 => (simp only [List.setIfInBounds_toArray, List.set_cons_succ, List.set_cons_zero]; try rfl)
  case hw46 => rfl
  case hv46 =>
    intro W hW
    obtain ⟨k1, k2, d0, d1, d2, d3, d4, d5, d6⟩ := HFA.out W hW
    go_simp
    try with_reducible rfl
  case ha46 => (simp only [Act.put, List.setIfInBounds_toArray, List.set_cons_succ, List.set_cons_zero]; try rfl)
  refine rh_takeS (i := 11) (o := ?o47) (v := ?v47) (listed' := ?l47) (a' := ?a47) ?hi47 (by kernel_rfl) (by kernel_rfl) (by kernel_rfl) ?hq47 ?hl47 ?hw47 ?hv47 ?ha47 HS0.out ?hh47
  case hi47 => (simp only [List.getElem?_toArray, List.getElem?_cons_succ, List.getElem?_cons_zero]; try rfl)
  case hq47 => exact fun _ _ _ h => h
  case hl47 => (simp only [List.setIfInBounds_toArray, List.set_cons_succ, List.set_cons_zero]; try rfl)
  case hw47 => rfl
  case hv47 =>
    intro W hW
    obtain ⟨k1, k2, d0, d1, d2, d3, d4, d5, d6⟩ := HFA.out W hW
    go_simp
    try with_reducible rfl
  case ha47 => (simp only [Act.put, List.setIfInBounds_toArray, List.set_cons_succ, List.set_cons_zero]; try rfl)
  refine rh_takeS (i := 12) (o := ?o48) (v := ?v48) (listed' := ?l48) (a' := ?a48) ?hi48 (by kernel_rfl) (by kernel_rfl) (by kernel_rfl) ?hq48 ?hl48 ?hw48 ?hv48 ?ha48 HS0.out ?hh48
  case hi48 => (simp only [List.getElem?_toArray, List.getElem?_cons_succ, List.getElem?_cons_zero]; try rfl)
  case hq48 => exact fun _ _ _ h => h
  case hl48 => (simp only [List.setIfInBounds_toArray, List.set_cons_succ, List.set_cons_zero]; try rfl)
  case hw48 => rfl
  case hv48 =>
    intro W hW
    obtain ⟨k1, k2, d0, d1, d2, d3, d4, d5, d6⟩ := HFA.out W hW
    go_simp
    try with_reducible rfl
  case ha48 => (simp only [Act.put, List.setIfInBounds_toArray, List.set_cons_succ, List.set_cons_zero]; try rfl)
  refine wpAnyH_ready (rs := [6]) (by kernel_rfl) (by simp) ?_
  refine rh_cons (i := 6) (o := ?o49) (listed' := ?l49) ?hi49 ?hl49 ?hg49 ?hh49 ?hs49
  case hi49 => (simp only [List.getElem?_toArray, List.getElem?_cons_succ, List.getElem?_cons_zero]; try rfl)
  case hl49 => (simp only [List.setIfInBounds_toArray, List.set_cons_succ, List.set_cons_zero]; try rfl)
  case hg49 => rfl
  case hs49 => exact AllReadyH.nil
  intro K hK
  go_simp
  refine (cAbsent (HI.out.on HS0.out) HNN.out HL.out (HAL.out.on HS0.out) HS1.out a.y.e.c a.t (HSL.out.on HS0.out) (by have := HCS.out; omega) true).mono ?_
  rintro z wa ⟨va, rfl, hv, hB⟩
  have HSa := hid (HS0.out.trans (hB.mono HS0.out.size))
  have HVa := hid (show SlI wa va (idsL (touchL xs a.y.e.c (absB a.t a.cs true))) from OwnI.sl hv)
  clear hv hB
  refine hK.out _ _ HSa.out ?_
  clear hK K
  refine wpAnyH_ready (rs := [13]) (by kernel_rfl) (by simp) ?_
  refine rh_cons (i := 13) (o := ?o50) (listed' := ?l50) ?hi50 ?hl50 ?hg50 ?hh50 ?hs50
  case hi50 => (simp only [List.getElem?_toArray, List.getElem?_cons_succ, List.getElem?_cons_zero]; try rfl)
  case hl50 => (simp only [List.setIfInBounds_toArray, List.set_cons_succ, List.set_cons_zero]; try rfl)
  case hg50 => rfl
  case hs50 => exact AllReadyH.nil
  intro K hK
  go_simp
  refine (rAbsent (HR.out.on HSa.out) HL.out (HAL.out.on HSa.out) HS1.out a.y.e.c a.t (HSL.out.on HSa.out) (by have := HCS.out; omega) true).mono ?_
  rintro z wb ⟨vb, rfl, hv, hB⟩
  have HSb := hid (HSa.out.trans (hB.mono HSa.out.size))
  have HVb := hid (show SlI wb vb (idsL (touchL xs a.y.e.c (absB a.t a.cs true))) from OwnI.sl hv)
  have HVc := hid (HVa.out.on hB)
  clear hv hB
  refine hK.out _ _ HSb.out ?_
  clear hK K
  refine wpAnyH_ready (rs := [14]) (by kernel_rfl) (by simp) ?_
  refine rh_cons (i := 14) (o := ?o51) (listed' := ?l51) ?hi51 ?hl51 ?hg51 ?hh51 ?hs51
  case hi51 => (simp only [List.getElem?_toArray, List.getElem?_cons_succ, List.getElem?_cons_zero]; try rfl)
  case hl51 => (simp only [List.setIfInBounds_toArray, List.set_cons_succ, List.set_cons_zero]; try rfl)
  case hg51 => rfl
  case hs51 => exact AllReadyH.nil
  intro K hK
  have hq := rSameIds HVc.out HVb.out (show (idsL (touchL xs a.y.e.c (absB a.t a.cs true))).length ≤ 100000 from by have := touch_len xs a.y.e.c (absB a.t a.cs true); have := HL.out; unfold idsL; rw [List.length_map]; omega)
  go_simp
  refine hq.mono ?_
  rintro z V6 ⟨rfl, hB⟩
  have HV6 := hid (HSb.out.trans (hB.mono HSb.out.size))
  clear hq hB
  refine hK.out _ _ HV6.out ?_
  clear hK K
  refine rh_takeS (i := 15) (o := ?o52) (v := ?v52) (listed' := ?l52) (a' := ?a52) ?hi52 (by kernel_rfl) (by kernel_rfl) (by kernel_rfl) ?hq52 ?hl52 ?hw52 ?hv52 ?ha52 HV6.out ?hh52
  case hi52 => (simp only [List.getElem?_toArray, List.getElem?_cons_succ, List.getElem?_cons_zero]; try rfl)
  case hq52 => exact fun _ _ _ h => h
  case hl52 => (simp only [List.setIfInBounds_toArray, List.set_cons_succ, List.set_cons_zero]; try rfl)
  case hw52 => rfl
  case hv52 =>
    intro W hW
    obtain ⟨k1, k2, d0, d1, d2, d3, d4, d5, d6⟩ := HFA.out W hW
    go_simp
    try with_reducible rfl
  case ha52 => (simp only [Act.put, List.setIfInBounds_toArray, List.set_cons_succ, List.set_cons_zero]; try rfl)
  refine wpAnyH_done (by kernel_rfl) ?_ _
  clear HS0 HSa HSb HVa HVb HVc
  skip
  go_wp2_with fail
  skip
  refine rh_start (S := fun W => Below W0.heap.size W0 W) (n := 16) (listed := #[false, false, false, false, false, false, false, false, false, false, false, false, false, false, false, false]) (by kernel_rfl) rfl rfl ?_
  have HS0 : Hid (Below W0.heap.size W0 V6.drew) := hid (belowDrew HV6.out)
  generalize World.drew V6 = wd at HS0 ⊢
  refine rh_takeS (i := 0) (o := ?o53) (v := ?v53) (listed' := ?l53) (a' := ?a53) ?hi53 (by kernel_rfl) (by kernel_rfl) (by kernel_rfl) ?hq53 ?hl53 ?hw53 ?hv53 ?ha53 HS0.out ?hh53
  case hi53 => (simp only [List.getElem?_toArray, List.getElem?_cons_zero]; try rfl)
  case hq53 => exact fun _ _ _ h => h
  case hl53 => (simp only [List.setIfInBounds_toArray, List.set_cons_zero]; try rfl)
  case hw53 => rfl
  case hv53 =>
    intro W hW
    obtain ⟨k1, k2, d0, d1, d2, d3, d4, d5, d6⟩ := HFA.out W hW
    go_simp
    try with_reducible rfl
  case ha53 => (simp only [Act.put, List.setIfInBounds_toArray, List.set_cons_succ, List.set_cons_zero]; try rfl)
  refine rh_takeS (i := 1) (o := ?o54) (v := ?v54) (listed' := ?l54) (a' := ?a54) ?hi54 (by kernel_rfl) (by kernel_rfl) (by kernel_rfl) ?hq54 ?hl54 ?hw54 ?hv54 ?ha54 HS0.out ?hh54
  case hi54 => (simp only [List.getElem?_toArray, List.getElem?_cons_succ, List.getElem?_cons_zero]; try rfl)
  case hq54 => exact fun _ _ _ h => h
  case hl54 => (simp only [List.setIfInBounds_toArray, List.set_cons_succ, List.set_cons_zero]; try rfl)
  case hw54 => rfl
  case hv54 =>
    intro W hW
    obtain ⟨k1, k2, d0, d1, d2, d3, d4, d5, d6⟩ := HFA.out W hW
    go_simp
    try with_reducible rfl
  case ha54 => (simp only [Act.put, List.setIfInBounds_toArray, List.set_cons_succ, List.set_cons_zero]; try rfl)
  refine rh_takeS (i := 2) (o := ?o55) (v := ?v55) (listed' := ?l55) (a' := ?a55) ?hi55 (by kernel_rfl) (by kernel_rfl) (by kernel_rfl) ?hq55 ?hl55 ?hw55 ?hv55 ?ha55 HS0.out ?hh55
  case hi55 => (simp only [List.getElem?_toArray, List.getElem?_cons_succ, List.getElem?_cons_zero]; try rfl)
  case hq55 => exact fun _ _ _ h => h
  case hl55 => (simp only [List.setIfInBounds_toArray, List.set_cons_succ, List.set_cons_zero]; try rfl)
  case hw55 => rfl
  case hv55 =>
    intro W hW
    obtain ⟨k1, k2, d0, d1, d2, d3, d4, d5, d6⟩ := HFA.out W hW
    go_simp
    try with_reducible rfl
  case ha55 => (simp only [Act.put, List.setIfInBounds_toArray, List.set_cons_succ, List.set_cons_zero]; try rfl)
  refine rh_takeS (i := 3) (o := ?o56) (v := ?v56) (listed' := ?l56) (a' := ?a56) ?hi56 (by kernel_rfl) (by kernel_rfl) (by kernel_rfl) ?hq56 ?hl56 ?hw56 ?hv56 ?ha56 HS0.out ?hh56
  case hi56 => (simp only [List.getElem?_toArray, List.getElem?_cons_succ, List.getElem?_cons_zero]; try rfl)
  case hq56 => exact fun _ _ _ h => h
  case hl56 => (simp only [List.setIfInBounds_toArray, List.set_cons_succ, List.set_cons_zero]; try rfl)
  case hw56 => rfl
  case hv56 =>
    intro W hW
    obtain ⟨k1, k2, d0, d1, d2, d3, d4, d5, d6⟩ := HFA.out W hW
    go_simp
    try with_reducible rfl
  case ha56 => (simp only [Act.put, List.setIfInBounds_toArray, List.set_cons_succ, List.set_cons_zero]; try rfl)
  refine rh_takeS (i := 4) (o := ?o57) (v := ?v57) (listed' := ?l57) (a' := ?a57) ?hi57 (by kernel_rfl) (by kernel_rfl) (by kernel_rfl) ?hq57 ?hl57 ?hw57 ?hv57 ?ha57 HS0.out ?hh57
  case hi57 => (simp only [List.getElem?_toArray, List.getElem?_cons_succ, List.getElem?_cons_zero]; try rfl)
  case hq57 => exact fun _ _ _ h => h
  case hl57 => (simp only [List.setIfInBounds_toArray, List.set_cons_succ, List.set_cons_zero]; try rfl)
  case hw57 => rfl
  case hv57 =>
    intro W hW
    obtain ⟨k1, k2, d0, d1, d2, d3, d4, d5, d6⟩ := HFA.out W hW
    go_simp
    try with_reducible rfl
  case ha57 => (simp only [Act.put, List.setIfInBounds_toArray, List.set_cons_succ, List.set_cons_zero]; try rfl)
  refine rh_takeS (i := 5) (o := ?o58) (v := ?v58) (listed' := ?l58) (a' := ?a58) ?hi58 (by kernel_rfl) (by kernel_rfl) (by kernel_rfl) ?hq58 ?hl58 ?hw58 ?hv58 ?ha58 HS0.out ?hh58
  case hi58 => (simp only [List.getElem?_toArray, List.getElem?_cons_succ, List.getElem?_cons_zero]; try rfl)
  case hq58 => exact fun _ _ _ h => h
  case hl58 => (simp only [List.setIfInBounds_toArray, List.set_cons_succ, List.set_cons_zero]; try rfl)
  case hw58 => rfl
  case hv58 =>
    intro W hW
    obtain ⟨k1, k2, d0, d1, d2, d3, d4, d5, d6⟩ := HFA.out W hW
    go_simp
    try with_reducible rfl
  case ha58 => (simp only [Act.put, List.setIfInBounds_toArray, List.set_cons_succ, List.set_cons_zero]; try rfl)
  refine rh_takeS (i := 7) (o := ?o59) (v := ?v59) (listed' := ?l59) (a' := ?a59) ?hi59 (by kernel_rfl) (by kernel_rfl) (by kernel_rfl) ?hq59 ?hl59 ?hw59 ?hv59 ?ha59 HS0.out ?hh59
  case hi59 => (simp only [List.getElem?_toArray, List.getElem?_cons_succ, List.getElem?_cons_zero]; try rfl)
  case hq59 => exact fun _ _ _ h => h
  case hl59 => (simp only [List.setIfInBounds_toArray, List.set_cons_succ, List.set_cons_zero]; try rfl)
  case hw59 => rfl
  case hv59 =>
    intro W hW
    obtain ⟨k1, k2, d0, d1, d2, d3, d4, d5, d6⟩ := HFA.out W hW
    go_simp
    try with_reducible rfl
  case ha59 => (simp only [Act.put, List.setIfInBounds_toArray, List.set_cons_succ, List.set_cons_zero]; try rfl)
  refine rh_takeS (i := 8) (o := ?o60) (v := ?v60) (listed' := ?l60) (a' := ?a60) ?hi60 (by kernel_rfl) (by kernel_rfl) (by kernel_rfl) ?hq60 ?hl60 ?hw60 ?hv60 ?ha60 HS0.out ?hh60
  case hi60 => (simp only [List.getElem?_toArray, List.getElem?_cons_succ, List.getElem?_cons_zero]; try rfl)
  case hq60 => exact fun _ _ _ h => h
  case hl60 => (simp only [List.setIfInBounds_toArray, List.set_cons_succ, List.set_cons_zero]; try rfl)
  case hw60 => rfl
  case hv60 =>
    intro W hW
    obtain ⟨k1, k2, d0, d1, d2, d3, d4, d5, d6⟩ := HFA.out W hW
    go_simp
    try with_reducible rfl
  case ha60 => (simp only [Act.put, List.setIfInBounds_toArray, List.set_cons_succ, List.set_cons_zero]; try rfl)
  refine rh_takeS (i := 9) (o := ?o61) (v := ?v61) (listed' := ?l61) (a' := ?a61) ?hi61 (by kernel_rfl) (by kernel_rfl) (by kernel_rfl) ?hq61 ?hl61 ?hw61 ?hv61 ?ha61 HS0.out ?hh61
  case hi61 => (simp only [List.getElem?_toArray, List.getElem?_cons_succ, List.getElem?_cons_zero]; try rfl)
  case hq61 => exact fun _ _ _ h => h
  case hl61 => (simp only [List.setIfInBounds_toArray, List.set_cons_succ, List.set_cons_zero]; try rfl)
  case hw61 => rfl
  case hv61 =>
    intro W hW
    obtain ⟨k1, k2, d0, d1, d2, d3, d4, d5, d6⟩ := HFA.out W hW
    go_simp
    try with_reducible rfl
  case ha61 => (simp only [Act.put, List.setIfInBounds_toArray, List.set_cons_succ, List.set_cons_zero]; try rfl)
  refine rh_takeS (i := 10) (o := ?o62) (v := ?v62) (listed' := ?l62) (a' := ?a62) ?hi62 (by kernel_rfl) (by kernel_rfl) (by kernel_rfl) ?hq62 ?hl62 ?hw62 ?hv62 ?ha62 HS0.out ?hh62
  case hi62 => (simp only [List.getElem?_toArray, List.getElem?_cons_succ, List.getElem?_cons_zero]; try rfl)
  case hq62 => exact fun _ _ _ h => h
  case hl62 => (simp only [List.setIfInBounds_toArray, List.set_cons_succ, List.set_cons_zero]; try rfl)
  case hw62 => rfl
  case hv62 =>
    intro W hW
    obtain ⟨k1, k2, d0, d1, d2, d3, d4, d5, d6⟩ := HFA.out W hW
    go_simp
    try with_reducible rfl
  case ha62 => (simp only [Act.put, List.setIfInBounds_toArray, List.set_cons_succ, List.set_cons_zero]; try rfl)
  refine rh_takeS (i := 11) (o := ?o63) (v := ?v63) (listed' := ?l63) (a' := ?a63) ?hi63 (by kernel_rfl) (by kernel_rfl) (by kernel_rfl) ?hq63 ?hl63 ?hw63 ?hv63 ?ha63 HS0.out ?hh63
  case hi63 => (simp only [List.getElem?_toArray, List.getElem?_cons_succ, List.getElem?_cons_zero]; try rfl)
  case hq63 => exact fun _ _ _ h => h
  case hl63 => (simp only [List.setIfInBounds_toArray, List.set_cons_succ, List.set_cons_zero]; try rfl)
  case hw63 => rfl
  case hv63 =>
    intro W hW
    obtain ⟨k1, k2, d0, d1, d2, d3, d4, d5, d6⟩ := HFA.out W hW
    go_simp
    try with_reducible rfl
  case ha63 => (simp only [Act.put, List.setIfInBounds_toArray, List.set_cons_succ, List.set_cons_zero]; try rfl)
  refine rh_takeS (i := 12) (o := ?o64) (v := ?v64) (listed' := ?l64) (a' := ?a64) ?hi64 (by kernel_rfl) (by kernel_rfl) (by kernel_rfl) ?hq64 ?hl64 ?hw64 ?hv64 ?ha64 HS0.out ?hh64
  case hi64 => (simp only [List.getElem?_toArray, List.getElem?_cons_succ, List.getElem?_cons_zero]; try rfl)
  case hq64 => exact fun _ _ _ h => h
  case hl64 => (simp only [List.setIfInBounds_toArray, List.set_cons_succ, List.set_cons_zero]; try rfl)
  case hw64 => rfl
  case hv64 =>
    intro W hW
    obtain ⟨k1, k2, d0, d1, d2, d3, d4, d5, d6⟩ := HFA.out W hW
    go_simp
    try with_reducible rfl
  case ha64 => (simp only [Act.put, List.setIfInBounds_toArray, List.set_cons_succ, List.set_cons_zero]; try rfl)
  refine wpAnyH_ready (rs := [6]) (by kernel_rfl) (by simp) ?_
  refine rh_cons (i := 6) (o := ?o65) (listed' := ?l65) ?hi65 ?hl65 ?hg65 ?hh65 ?hs65
  case hi65 => (simp only [List.getElem?_toArray, List.getElem?_cons_succ, List.getElem?_cons_zero]; try rfl)
  case hl65 => (simp only [List.setIfInBounds_toArray, List.set_cons_succ, List.set_cons_zero]; try rfl)
  case hg65 => rfl
  case hs65 => exact AllReadyH.nil
  intro K hK
  go_simp
  refine (cAbsent (HI.out.on HS0.out) HNN.out HL.out (HAL.out.on HS0.out) HS1.out a.y.e.c a.t (HSL.out.on HS0.out) (by have := HCS.out; omega) false).mono ?_
  rintro z wa ⟨va, rfl, hv, hB⟩
  have HSa := hid (HS0.out.trans (hB.mono HS0.out.size))
  have HVa := hid (show SlI wa va (idsL (touchL xs a.y.e.c (absB a.t a.cs false))) from OwnI.sl hv)
  clear hv hB
  refine hK.out _ _ HSa.out ?_
  clear hK K
  refine wpAnyH_ready (rs := [13]) (by kernel_rfl) (by simp) ?_
  refine rh_cons (i := 13) (o := ?o66) (listed' := ?l66) ?hi66 ?hl66 ?hg66 ?hh66 ?hs66
  case hi66 => (simp only [List.getElem?_toArray, List.getElem?_cons_succ, List.getElem?_cons_zero]; try rfl)
  case hl66 => (simp only [List.setIfInBounds_toArray, List.set_cons_succ, List.set_cons_zero]; try rfl)
  case hg66 => rfl
  case hs66 => exact AllReadyH.nil
  intro K hK
  go_simp
  refine (rAbsent (HR.out.on HSa.out) HL.out (HAL.out.on HSa.out) HS1.out a.y.e.c a.t (HSL.out.on HSa.out) (by have := HCS.out; omega) false).mono ?_
  rintro z wb ⟨vb, rfl, hv, hB⟩
  have HSb := hid (HSa.out.trans (hB.mono HSa.out.size))
  have HVb := hid (show SlI wb vb (idsL (touchL xs a.y.e.c (absB a.t a.cs false))) from OwnI.sl hv)
  have HVc := hid (HVa.out.on hB)
  clear hv hB
  refine hK.out _ _ HSb.out ?_
  clear hK K
  refine wpAnyH_ready (rs := [14]) (by kernel_rfl) (by simp) ?_
  refine rh_cons (i := 14) (o := ?o67) (listed' := ?l67) ?hi67 ?hl67 ?hg67 ?hh67 ?hs67
  case hi67 => (simp only [List.getElem?_toArray, List.getElem?_cons_succ, List.getElem?_cons_zero]; try rfl)
  case hl67 => (simp only [List.setIfInBounds_toArray, List.set_cons_succ, List.set_cons_zero]; try rfl)
  case hg67 => rfl
  case hs67 => exact AllReadyH.nil
  intro K hK
  have hq := rSameIds HVc.out HVb.out (show (idsL (touchL xs a.y.e.c (absB a.t a.cs false))).length ≤ 100000 from by have := touch_len xs a.y.e.c (absB a.t a.cs false); have := HL.out; unfold idsL; rw [List.length_map]; omega)
  go_simp
  refine hq.mono ?_
  rintro z V7 ⟨rfl, hB⟩
  have HV7 := hid (HSb.out.trans (hB.mono HSb.out.size))
  clear hq hB
  refine hK.out _ _ HV7.out ?_
  clear hK K
  refine rh_takeS (i := 15) (o := ?o68) (v := ?v68) (listed' := ?l68) (a' := ?a68) ?hi68 (by kernel_rfl) (by kernel_rfl) (by kernel_rfl) ?hq68 ?hl68 ?hw68 ?hv68 ?ha68 HV7.out ?hh68
  case hi68 => (simp only [List.getElem?_toArray, List.getElem?_cons_succ, List.getElem?_cons_zero]; try rfl)
  case hq68 => exact fun _ _ _ h => h
  case hl68 => (simp only [List.setIfInBounds_toArray, List.set_cons_succ, List.set_cons_zero]; try rfl)
  case hw68 => rfl
  case hv68 =>
    intro W hW
    obtain ⟨k1, k2, d0, d1, d2, d3, d4, d5, d6⟩ := HFA.out W hW
    go_simp
    try with_reducible rfl
  case ha68 => (simp only [Act.put, List.setIfInBounds_toArray, List.set_cons_succ, List.set_cons_zero]; try rfl)
  refine wpAnyH_done (by kernel_rfl) ?_ _
  clear HS0 HSa HSb HVa HVb HVc
  skip
  obtain ⟨-, -, d0, -⟩ := HFA.out V7 HV7.out
  go_wp2_with fail
  skip
  obtain ⟨e1, he1⟩ : ∃ e, e = lookE xs a.y.e.c.i := ⟨_, rfl⟩
  obtain ⟨d1, hd1⟩ : ∃ d, d = hasE xs a.y.e.c.i := ⟨_, rfl⟩
  have hg := cGet (HI.out.on HV7.out) HWF.out
  rw [← he1, ← hd1] at hg
  have hg2 := fun W (hW : Below W0.heap.size W0 W) => rIGet (HR.out.on hW) (Nat.le_trans (keptE_len xs) HL.out) a.y.e.c.i
  simp only [← he1, ← hd1] at hg2
  have HG2 := hid hg2
  have hlk := HLK.out
  rw [← he1] at hlk
  have HLE := hid hlk
  clear he1 hd1 hg2 hlk HLK
  go_at_call 18
  refine hg.mono ?_
  rintro z V8 ⟨rfl, hB⟩
  have HV8 := hid (HV7.out.trans (hB.mono HV7.out.size))
  clear hB hg d0
  go_wp2_with (first
    | ((with_reducible refine storeC (x := ?sx1) (y := ?sy1) (b := V8.heap.size) (T := 44) e1 ?sg1 ?so1 ?sxx1 ?syy1 ?sc1 ?sh1); (case sg1 => rfl); (case so1 => rfl); (case sxx1 => rfl); (case syy1 => rfl); (case sc1 => exact Ob.room (e := zE) (laid1_0 V8 zeroEc)); intro V9 hO hU; have HO1 := hid hO; have HV9 := hid (HV8.out.trans (((laid1_b V8 zeroEc).trans (hU.below V8.heap.size (Nat.le_refl _))).mono HV8.out.size)); clear hO hU; obtain ⟨-, -, d0, -⟩ := HFA.out V9 HV9.out)
    | fail)
  go_at_call 51
  refine (HG2.out V9 HV9.out).mono ?_
  rintro z V10 ⟨rfl, hB⟩
  have HV10 := hid (HV9.out.trans (hB.mono HV9.out.size))
  have HO10 := hid (heapB HO1.out hB (Array.getElem?_eq_some_iff.1 HO1.out).1)
  clear hB d0
  go_wp2_with (first
    | ((with_reducible refine storeR (x := ?rx1) (y := ?ry1) (b := V10.heap.size) (T := 74) e1 ?rg1 ?ro1 ?rxx1 ?ryy1 ?rc1 ?rh1); (case rg1 => rfl); (case ro1 => rfl); (case rxx1 => rfl); (case ryy1 => rfl); (case rc1 => exact Ob.room (e := zE) (laid1_0 V10 zeroE)); intro V11 hO hU; have HO2 := hid hO; have hb11 := ((laid1_b V10 zeroE).trans (hU.below V10.heap.size (Nat.le_refl _))); have HO11 := hid (heapB HO10.out hb11 (Array.getElem?_eq_some_iff.1 HO10.out).1); have HV11 := hid (HV10.out.trans (hb11.mono HV10.out.size)); clear hO hU hb11)
    | fail)
  refine rh_start (S := fun W => Below V11.heap.size V11 W) (n := 5) (listed := #[false, false, false, false, false]) (by kernel_rfl) rfl rfl ?_
  have HS0 : Hid (Below V11.heap.size V11 V11.drew) := hid (belowDrew (Below.refl _ V11))
  generalize World.drew V11 = wd at HS0 ⊢
  refine rh_load (i := 0) (o := ?o69) (cs := e1.list) (T := 44) (x := ?x69) (b := ?b69) (q := ?q69) (listed' := ?l69) (a' := ?a69) ?hi69 (by kernel_rfl) (by kernel_rfl) (by kernel_rfl) ?hq69 ?hl69 ?hg69 ?ho69 ?hx69 ?hc69 Tryz.underlying44 rfl (infoEc e1) ?ha69 HS0.out ?hh69
  case hi69 => (simp only [List.getElem?_toArray, List.getElem?_cons_zero]; try rfl)
  case hq69 => exact fun _ _ _ h => h
  case hl69 => (simp only [List.setIfInBounds_toArray, List.set_cons_zero]; try rfl)
  case hg69 => rfl
  case ho69 => rfl
  case hx69 => rfl
  case hc69 => exact fun W hW => (show Ob W V8.heap.size 44 e1 from heapB HO11.out hW (Array.getElem?_eq_some_iff.1 HO11.out).1).range
  case ha69 => (show Act.put _ _ (Value.agg e1.arr) = _); (simp only [Act.put, List.setIfInBounds_toArray, List.set_cons_succ, List.set_cons_zero]; try rfl)
  refine rh_load (i := 2) (o := ?o70) (cs := e1.list) (T := 74) (x := ?x70) (b := ?b70) (q := ?q70) (listed' := ?l70) (a' := ?a70) ?hi70 (by kernel_rfl) (by kernel_rfl) (by kernel_rfl) ?hq70 ?hl70 ?hg70 ?ho70 ?hx70 ?hc70 Tryz.underlying74 rfl (infoE e1) ?ha70 HS0.out ?hh70
  case hi70 => (simp only [List.getElem?_toArray, List.getElem?_cons_succ, List.getElem?_cons_zero]; try rfl)
  case hq70 => exact fun _ _ _ h => h
  case hl70 => (simp only [List.setIfInBounds_toArray, List.set_cons_succ, List.set_cons_zero]; try rfl)
  case hg70 => rfl
  case ho70 => rfl
  case hx70 => rfl
  case hc70 => exact fun W hW => (show Ob W V10.heap.size 74 e1 from heapB HO2.out hW (Array.getElem?_eq_some_iff.1 HO2.out).1).range
  case ha70 => (show Act.put _ _ (Value.agg e1.arr) = _); (simp only [Act.put, List.setIfInBounds_toArray, List.set_cons_succ, List.set_cons_zero]; try rfl)
  refine wpAnyH_ready (rs := [1]) (by kernel_rfl) (by simp) ?_
  refine rh_cons (i := 1) (o := ?o71) (listed' := ?l71) ?hi71 ?hl71 ?hg71 ?hh71 ?hs71
  case hi71 => (simp only [List.getElem?_toArray, List.getElem?_cons_succ, List.getElem?_cons_zero]; try rfl)
  case hl71 => (simp only [List.setIfInBounds_toArray, List.set_cons_succ, List.set_cons_zero]; try rfl)
  case hg71 => rfl
  case hs71 => exact AllReadyH.nil
  intro K hK
  go_simp
  refine (cOf e1 _).mono ?_
  rintro z wa ⟨rfl, hB⟩
  have HSa := hid (HS0.out.trans (hB.mono HS0.out.size))
  clear hB
  refine hK.out _ _ HSa.out ?_
  clear hK K
  refine wpAnyH_ready (rs := [3]) (by kernel_rfl) (by simp) ?_
  refine rh_cons (i := 3) (o := ?o72) (listed' := ?l72) ?hi72 ?hl72 ?hg72 ?hh72 ?hs72
  case hi72 => (simp only [List.getElem?_toArray, List.getElem?_cons_succ, List.getElem?_cons_zero]; try rfl)
  case hl72 => (simp only [List.setIfInBounds_toArray, List.set_cons_succ, List.set_cons_zero]; try rfl)
  case hg72 => rfl
  case hs72 => exact AllReadyH.nil
  intro K hK
  obtain ⟨f, l, v, h1, h2, h3, l1, l2, l3⟩ := HLE.out
  have hbe := HV11.out.trans (HSa.out.mono HV11.out.size)
  have hq := rSameE (h1.on hbe) (h1.on hbe) (h2.on hbe) (h2.on hbe) (h3.on hbe) (h3.on hbe) l1 l1 l2 l2 l3 l3
  rw [sameE_self] at hq
  go_simp
  refine hq.mono ?_
  rintro z wb ⟨rfl, hB⟩
  have HSb := hid (HSa.out.trans (hB.mono HSa.out.size))
  have HVb := hid (hbe.trans (hB.mono hbe.size))
  clear hB hq h1 h2 h3 l1 l2 l3 hbe
  refine hK.out _ _ HSb.out ?_
  clear hK K
  refine rh_takeS (i := 4) (o := ?o73) (v := ?v73) (listed' := ?l73) (a' := ?a73) ?hi73 (by kernel_rfl) (by kernel_rfl) (by kernel_rfl) ?hq73 ?hl73 ?hw73 ?hv73 ?ha73 HSb.out ?hh73
  case hi73 => (simp only [List.getElem?_toArray, List.getElem?_cons_succ, List.getElem?_cons_zero]; try rfl)
  case hq73 => exact fun _ _ _ h => h
  case hl73 => (simp only [List.setIfInBounds_toArray, List.set_cons_succ, List.set_cons_zero]; try rfl)
  case hw73 => rfl
  case hv73 =>
    intro W hW
    skip
    go_simp
    try with_reducible rfl
  case ha73 => (simp only [Act.put, List.setIfInBounds_toArray, List.set_cons_succ, List.set_cons_zero]; try rfl)
  refine wpAnyH_done (by kernel_rfl) ?_ _
  go_wp2_with fail
  go_ret
  exact ⟨rfl, HB.out.trans (HVb.out.mono HB.out.size)⟩
end Go.Proofs.YtogoibigabpkhaaGreat
