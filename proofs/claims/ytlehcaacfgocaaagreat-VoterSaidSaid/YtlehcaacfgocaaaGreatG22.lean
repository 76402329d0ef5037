import Derived.Test.YtlehcaacfgocaaaGreatG21
import Derived.Test.YtlehcaacfgocaaaGreatVTouchZm
import Derived.Test.YtlehcaacfgocaaaGreatG02
import Derived.Test.YtlehcaacfgocaaaGreatG12
import Derived.Test.YtlehcaacfgocaaaGreatG01
import Derived.Deep.QuietTactic
import Derived.BigQuiet
import Derived.Test.YtlehcaacfgocaaaGreatG05
import Derived.Sort.OwnSortedInts
namespace Go.Proofs.YtlehcaacfgocaaaGreat
set_option linter.unusedVariables false
open Go.RowKit
open Go.Lib (hid)
theorem Sl.asSv {w : World} {v : Value} {cs : List C7} (h : Sl w v cs) : ∃ p : Sv, v = p.v ∧ p.n = cs.length := by
  obtain ⟨b, o, cap, a, rfl, _⟩ := h
  exact ⟨⟨a, _, cap⟩, rfl, rfl⟩
theorem Vo.lt {w : World} {B : Bd} {q x b b2 N : Nat} {nd : Int} {s : Sd} {wv : Value} {ws : List Ms} (h : Vo w B q x b b2 N nd s wv ws) : ∀ k, TV q x b b2 k → k < w.heap.size := by
  obtain ⟨n, ids, hn, hv⟩ := h.ix
  rintro k (rfl | rfl | rfl | rfl)
  · exact hv.lt
  · exact hv.ix.lt.1
  · exact hv.ix.lt.2.1
  · exact hv.ix.lt.2.2
theorem Vo.off {w : World} {B : Bd} {q x b b2 N k : Nat} {nd : Int} {s : Sd} {wv : Value} {ws : List Ms} (h : Vo w B q x b b2 N nd s wv ws) (hk : w.heap.size ≤ k) : ¬ TV q x b b2 k := fun hT => by have := h.lt k hT; omega
theorem Vo.cell0 {w : World} {B : Bd} {q x b b2 N : Nat} {nd : Int} {s : Sd} {wv : Value} {ws : List Ms} (h : Vo w B q x b b2 N nd s wv ws) : w.cell? ⟨q, 0, none⟩ = some (ptr x) := by
  obtain ⟨n, ids, hn, hv⟩ := h.ix
  exact hv.cells.1
theorem cBackV {w : World} {B : Bd} {q x b b2 N : Nat} {nd : Int} {s : Sd} {wv : Value} {ws : List Ms} (h : Vo w B q x b b2 N nd s wv ws) (m a : Mg) : Calls Tryz.prog 73 #[ptr q, .agg m.arr, .agg a.arr] w (BackPost w nd m a) := by
  obtain ⟨n, ids, hn, hv⟩ := h.ix
  exact cBack hv m a
theorem cPredV {w : World} {B : Bd} {q x b b2 N : Nat} {nd : Int} {s : Sd} {wv : Value} {ws : List Ms} (h : Vo w B q x b b2 N nd s wv ws) (hN : N ≤ 20000) (c : C7) (t : Int) : Calls Tryz.prog 118 #[ptr x, c.v, .int .i64 t] w fun e w' => ∃ v, e = .returned v ∧ SlT w.heap.size w' v (predL s.xs c t) ∧ Below w.heap.size w w' := by
  obtain ⟨n, ids, hn, hv⟩ := h.ix
  exact cPredO hv.ix (by omega) (by have := h.len; omega) h.all h.sh c t
theorem OutD.back {w w1 w' : World} {B : Bd} {q x b b2 N : Nat} {nd : Int} {s : Sd} {wv : Value} {ws : List Ms} {m : Ms} {a : Mg} {e : Ending} (l1 l2 l3 : List C7) (hp : BackPost w1 nd m.m a e w') (h : Vo w1 B q x b b2 N nd s wv ws) (ht : Tch (TV q x b b2) w w1) (h1 : SetF B w1 a.vp.v l1) (h2 : SetF B w1 a.xp.v l2) (h3 : SetF B w1 a.fp.v l3) :
    OutD w B q x b b2 N nd wv ws (s, [backA nd m (Ms.an ⟨a, l1, l2, l3⟩)]) e w' := by
  obtain ⟨v, rfl, hs, ⟨g, cap, hv, hM⟩, hB⟩ := hp
  exact OutD.one (a := ⟨{ a with fr := nd, tt := m.m.fr, c := m.m.c, bal := if a.so = 7 then a.bal else m.m.bal }, l1, l2, l3⟩) hs hv hM ⟨h1.on hB, h2.on hB, h3.on hB⟩ rfl (h.on hB) (ht.trans (Tch.ofBelow hB))
set_option maxRecDepth 100000 in
theorem run_buildV (t : Int) (p : Sv) (w : World) : (Instr.build 48 #[(0, .int .i64 t), (1, p.v)]).run Tryz.prog w = .ok (.agg #[.int .i64 t, p.v]) w := by kernel_rfl
set_option maxRecDepth 100000 in
theorem run_buildRef (t s : Int) (p : Sv) (w : World) : (Instr.build 50 #[(0, .int .i64 2), (5, .agg #[.int .i64 t, p.v]), (7, .int .i64 s)]).run Tryz.prog w = .ok (.agg ({ zM with so := 2, vt := t, vp := p, s := s } : Mg).arr) w := by kernel_rfl
set_option maxHeartbeats 16000000 in
set_option maxRecDepth 100000 in
theorem cRefuse {w : World} {B : Bd} {q x b b2 N : Nat} {nd : Int} {s : Sd} {wv : Value} {ws : List Ms} (h : Vo w B q x b b2 N nd s wv ws) (hN : N ≤ 20000) (m : Ms) :
    Calls Tryz.prog 145 #[ptr q, .agg m.m.arr] w (OutD w B q x b b2 N nd wv ws (refuseF nd s m)) := by
  have HB := hid (laid1_b w (.cells m.m.arr 50))
  have HM : Hid (OM (w.alloc (.cells m.m.arr 50)) w.heap.size m.m) := hid (laid1_0 w _)
  have HV := hid (h.on HB.out)
  have HOF := hid (h.off (Nat.le_refl _))
  have HN := hid hN
  clear h hN
  go_enter Tryz.func145, Tryz.ntmps145
  go_wp2_with fail
  generalize (w.alloc (.cells m.m.arr 50)) = W0 at HB HM HV ⊢
  have hFr := cFresh HV.out
  by_cases h0 : mkE (s.c + 1) nd = 0
  · go_at_call 117
    refine hFr.mono ?_
    rintro e w1 ⟨rfl, hV1, hT1⟩
    rw [decide_eq_true h0]
    have HV1 := hid hV1
    have HT1 := hid ((Tch.ofBelow HB.out).trans hT1)
    have HM1 : Hid (OM w1 w.heap.size m.m) := hid (hT1.ob HM.out HOF.out)
    clear hV1 hT1 hFr HV HM
    go_wp2_with fail
    have HF : Hid (∀ W, Below w1.heap.size w1 W → W.cell? ⟨q, 0, none⟩ = some (ptr x) ∧ W.cell? ⟨w.heap.size, 11, none⟩ = some (.int .i64 m.m.vt) ∧ W.cell? ⟨w.heap.size, 4, none⟩ = some (.int .i64 m.m.c.i) ∧ W.cell? ⟨w.heap.size, 5, none⟩ = some (.int .i64 m.m.c.k) ∧ W.cell? ⟨w.heap.size, 6, none⟩ = some (.int .i64 m.m.c.s) ∧ W.cell? ⟨w.heap.size, 7, none⟩ = some (.int .i64 m.m.c.t) ∧ W.cell? ⟨w.heap.size, 8, none⟩ = some (.int .i64 m.m.c.d) ∧ W.cell? ⟨w.heap.size, 9, none⟩ = some (.int .i64 m.m.c.p) ∧ W.cell? ⟨w.heap.size, 10, none⟩ = some (.int .i64 m.m.c.q)) := hid fun W hW => by
      have hm : OM W w.heap.size m.m := heapB HM1.out hW (Array.getElem?_eq_some_iff.1 HM1.out).1
      exact ⟨(HV1.out.on hW).cell0, hm.cell rfl, (hm).cell rfl, (hm).cell rfl, (hm).cell rfl, (hm).cell rfl, (hm).cell rfl, (hm).cell rfl, (hm).cell rfl⟩
    refine rh_start (S := fun W => Below w1.heap.size w1 W) (n := 18) (listed := #[false, false, false, false, false, false, false, false, false, false, false, false, false, false, false, false, false, false]) (by kernel_rfl) rfl rfl ?_
    have HS0 : Hid (Below w1.heap.size w1 w1.drew) := hid (belowDrew (Below.refl _ w1))
    generalize w1.drew = wd at HS0 ⊢
    refine rh_takeS (i := 0) (o := ?o1) (v := ?v1) (listed' := ?l1) (a' := ?a1) ?hi1 (by kernel_rfl) (by kernel_rfl) (by kernel_rfl) ?hq1 ?hl1 ?hw1 ?hv1 ?ha1 HS0.out ?hh1
    case hi1 => (simp only [List.getElem?_toArray, List.getElem?_cons_zero]; try rfl)
    case hq1 => exact fun _ _ _ h => h
    case hl1 => (simp only [List.setIfInBounds_toArray, List.set_cons_zero]; try rfl)
    case hw1 => rfl
    case hv1 =>
      intro W hW
      skip
      go_simp
      try with_reducible rfl
    case ha1 => (simp only [Act.put, List.setIfInBounds_toArray, List.set_cons_succ, List.set_cons_zero]; try rfl)
    refine rh_load (i := 1) (o := ?o2) (cs := m.m.list) (T := 50) (x := ?x2) (b := ?b2) (q := ?q2) (listed' := ?l2) (a' := ?a2) ?hi2 (by kernel_rfl) (by kernel_rfl) (by kernel_rfl) ?hq2 ?hl2 ?hg2 ?ho2 ?hx2 ?hc2 Tryz.underlying50 rfl (infoM m.m) ?ha2 HS0.out ?hh2
    case hi2 => (simp only [List.getElem?_toArray, List.getElem?_cons_succ, List.getElem?_cons_zero]; try rfl)
    case hq2 => exact fun _ _ _ h => h
    case hl2 => (simp only [List.setIfInBounds_toArray, List.set_cons_succ, List.set_cons_zero]; try rfl)
    case hg2 => rfl
    case ho2 => rfl
    case hx2 => rfl
    case hc2 => exact fun W hW => OM.range (heapB HM1.out hW (Array.getElem?_eq_some_iff.1 HM1.out).1)
    case ha2 => (show Act.put _ _ (Value.agg m.m.arr) = _); (simp only [Act.put, List.setIfInBounds_toArray, List.set_cons_succ, List.set_cons_zero]; try rfl)
    refine rh_takeS (i := 2) (o := ?o3) (v := ?v3) (listed' := ?l3) (a' := ?a3) ?hi3 (by kernel_rfl) (by kernel_rfl) (by kernel_rfl) ?hq3 ?hl3 ?hw3 ?hv3 ?ha3 HS0.out ?hh3
    case hi3 => (simp only [List.getElem?_toArray, List.getElem?_cons_succ, List.getElem?_cons_zero]; try rfl)
    case hq3 => exact fun _ _ _ h => h
    case hl3 => (simp only [List.setIfInBounds_toArray, List.set_cons_succ, List.set_cons_zero]; try rfl)
    case hw3 => rfl
    case hv3 =>
      intro W hW
      obtain ⟨k0, k1, d0, d1, d2, d3, d4, d5, d6⟩ := HF.out W hW
      go_simp
      try with_reducible rfl
    case ha3 => (simp only [Act.put, List.setIfInBounds_toArray, List.set_cons_succ, List.set_cons_zero]; try rfl)
    refine rh_takeS (i := 3) (o := ?o4) (v := ?v4) (listed' := ?l4) (a' := ?a4) ?hi4 (by kernel_rfl) (by kernel_rfl) (by kernel_rfl) ?hq4 ?hl4 ?hw4 ?hv4 ?ha4 HS0.out ?hh4
    case hi4 => (simp only [List.getElem?_toArray, List.getElem?_cons_succ, List.getElem?_cons_zero]; try rfl)
    case hq4 => exact fun _ _ _ h => h
    case hl4 => (simp only [List.setIfInBounds_toArray, List.set_cons_succ, List.set_cons_zero]; try rfl)
    case hw4 => rfl
    case hv4 =>
      intro W hW
      obtain ⟨k0, k1, d0, d1, d2, d3, d4, d5, d6⟩ := HF.out W hW
      go_simp
      try with_reducible rfl
    case ha4 => (simp only [Act.put, List.setIfInBounds_toArray, List.set_cons_succ, List.set_cons_zero]; try rfl)
    refine rh_takeS (i := 4) (o := ?o5) (v := ?v5) (listed' := ?l5) (a' := ?a5) ?hi5 (by kernel_rfl) (by kernel_rfl) (by kernel_rfl) ?hq5 ?hl5 ?hw5 ?hv5 ?ha5 HS0.out ?hh5
    case hi5 => (simp only [List.getElem?_toArray, List.getElem?_cons_succ, List.getElem?_cons_zero]; try rfl)
    case hq5 => exact fun _ _ _ h => h
    case hl5 => (simp only [List.setIfInBounds_toArray, List.set_cons_succ, List.set_cons_zero]; try rfl)
    case hw5 => rfl
    case hv5 =>
      intro W hW
      obtain ⟨k0, k1, d0, d1, d2, d3, d4, d5, d6⟩ := HF.out W hW
      go_simp
      try with_reducible rfl
    case ha5 => (simp only [Act.put, List.setIfInBounds_toArray, List.set_cons_succ, List.set_cons_zero]; try rfl)
    refine rh_takeS (i := 5) (o := ?o6) (v := ?v6) (listed' := ?l6) (a' := ?a6) ?hi6 (by kernel_rfl) (by kernel_rfl) (by kernel_rfl) ?hq6 ?hl6 ?hw6 ?hv6 ?ha6 HS0.out ?hh6
    case hi6 => (simp only [List.getElem?_toArray, List.getElem?_cons_succ, List.getElem?_cons_zero]; try rfl)
    case hq6 => exact fun _ _ _ h => h
    case hl6 => (simp only [List.setIfInBounds_toArray, List.set_cons_succ, List.set_cons_zero]; try rfl)
    case hw6 => rfl
    case hv6 =>
      intro W hW
      obtain ⟨k0, k1, d0, d1, d2, d3, d4, d5, d6⟩ := HF.out W hW
      go_simp
      try with_reducible rfl
    case ha6 => (simp only [Act.put, List.setIfInBounds_toArray, List.set_cons_succ, List.set_cons_zero]; try rfl)
    refine rh_takeS (i := 6) (o := ?o7) (v := ?v7) (listed' := ?l7) (a' := ?a7) ?hi7 (by kernel_rfl) (by kernel_rfl) (by kernel_rfl) ?hq7 ?hl7 ?hw7 ?hv7 ?ha7 HS0.out ?hh7
    case hi7 => (simp only [List.getElem?_toArray, List.getElem?_cons_succ, List.getElem?_cons_zero]; try rfl)
    case hq7 => exact fun _ _ _ h => h
    case hl7 => (simp only [List.setIfInBounds_toArray, List.set_cons_succ, List.set_cons_zero]; try rfl)
    case hw7 => rfl
    case hv7 =>
      intro W hW
      obtain ⟨k0, k1, d0, d1, d2, d3, d4, d5, d6⟩ := HF.out W hW
      go_simp
      try with_reducible rfl
    case ha7 => (simp only [Act.put, List.setIfInBounds_toArray, List.set_cons_succ, List.set_cons_zero]; try rfl)
    refine rh_takeS (i := 7) (o := ?o8) (v := ?v8) (listed' := ?l8) (a' := ?a8) ?hi8 (by kernel_rfl) (by kernel_rfl) (by kernel_rfl) ?hq8 ?hl8 ?hw8 ?hv8 ?ha8 HS0.out ?hh8
    case hi8 => (simp only [List.getElem?_toArray, List.getElem?_cons_succ, List.getElem?_cons_zero]; try rfl)
    case hq8 => exact fun _ _ _ h => h
    case hl8 => (simp only [List.setIfInBounds_toArray, List.set_cons_succ, List.set_cons_zero]; try rfl)
    case hw8 => rfl
    case hv8 =>
      intro W hW
      obtain ⟨k0, k1, d0, d1, d2, d3, d4, d5, d6⟩ := HF.out W hW
      go_simp
      try with_reducible rfl
    case ha8 => (simp only [Act.put, List.setIfInBounds_toArray, List.set_cons_succ, List.set_cons_zero]; try rfl)
    refine rh_takeS (i := 8) (o := ?o9) (v := ?v9) (listed' := ?l9) (a' := ?a9) ?hi9 (by kernel_rfl) (by kernel_rfl) (by kernel_rfl) ?hq9 ?hl9 ?hw9 ?hv9 ?ha9 HS0.out ?hh9
    case hi9 => (simp only [List.getElem?_toArray, List.getElem?_cons_succ, List.getElem?_cons_zero]; try rfl)
    case hq9 => exact fun _ _ _ h => h
    case hl9 => (simp only [List.setIfInBounds_toArray, List.set_cons_succ, List.set_cons_zero]; try rfl)
    case hw9 => rfl
    case hv9 =>
      intro W hW
      obtain ⟨k0, k1, d0, d1, d2, d3, d4, d5, d6⟩ := HF.out W hW
      go_simp
      try with_reducible rfl
    case ha9 => (simp only [Act.put, List.setIfInBounds_toArray, List.set_cons_succ, List.set_cons_zero]; try rfl)
    refine rh_takeS (i := 9) (o := ?o10) (v := ?v10) (listed' := ?l10) (a' := ?a10) ?hi10 (by kernel_rfl) (by kernel_rfl) (by kernel_rfl) ?hq10 ?hl10 ?hw10 ?hv10 ?ha10 HS0.out ?hh10
    case hi10 => (simp only [List.getElem?_toArray, List.getElem?_cons_succ, List.getElem?_cons_zero]; try rfl)
    case hq10 => exact fun _ _ _ h => h
    case hl10 => (simp only [List.setIfInBounds_toArray, List.set_cons_succ, List.set_cons_zero]; try rfl)
    case hw10 => rfl
    case hv10 =>
      intro W hW
      obtain ⟨k0, k1, d0, d1, d2, d3, d4, d5, d6⟩ := HF.out W hW
      go_simp
      try with_reducible rfl
    case ha10 => (simp only [Act.put, List.setIfInBounds_toArray, List.set_cons_succ, List.set_cons_zero]; try rfl)
    refine rh_takeS (i := 10) (o := ?o11) (v := ?v11) (listed' := ?l11) (a' := ?a11) ?hi11 (by kernel_rfl) (by kernel_rfl) (by kernel_rfl) ?hq11 ?hl11 ?hw11 ?hv11 ?ha11 HS0.out ?hh11
    case hi11 => (simp only [List.getElem?_toArray, List.getElem?_cons_succ, List.getElem?_cons_zero]; try rfl)
    case hq11 => exact fun _ _ _ h => h
    case hl11 => (simp only [List.setIfInBounds_toArray, List.set_cons_succ, List.set_cons_zero]; try rfl)
    case hw11 => rfl
    case hv11 =>
      intro W hW
      obtain ⟨k0, k1, d0, d1, d2, d3, d4, d5, d6⟩ := HF.out W hW
      go_simp
      try with_reducible rfl
    case ha11 => (simp only [Act.put, List.setIfInBounds_toArray, List.set_cons_succ, List.set_cons_zero]; try rfl)
    refine rh_takeS (i := 11) (o := ?o12) (v := ?v12) (listed' := ?l12) (a' := ?a12) ?hi12 (by kernel_rfl) (by kernel_rfl) (by kernel_rfl) ?hq12 ?hl12 ?hw12 ?hv12 ?ha12 HS0.out ?hh12
    case hi12 => (simp only [List.getElem?_toArray, List.getElem?_cons_succ, List.getElem?_cons_zero]; try rfl)
    case hq12 => exact fun _ _ _ h => h
    case hl12 => (simp only [List.setIfInBounds_toArray, List.set_cons_succ, List.set_cons_zero]; try rfl)
    case hw12 => rfl
    case hv12 =>
      intro W hW
      obtain ⟨k0, k1, d0, d1, d2, d3, d4, d5, d6⟩ := HF.out W hW
      go_simp
      try with_reducible rfl
    case ha12 => (simp only [Act.put, List.setIfInBounds_toArray, List.set_cons_succ, List.set_cons_zero]; try rfl)
    refine rh_takeS (i := 14) (o := ?o13) (v := ?v13) (listed' := ?l13) (a' := ?a13) ?hi13 (by kernel_rfl) (by kernel_rfl) (by kernel_rfl) ?hq13 ?hl13 ?hw13 ?hv13 ?ha13 HS0.out ?hh13
    case hi13 => (simp only [List.getElem?_toArray, List.getElem?_cons_succ, List.getElem?_cons_zero]; try rfl)
    case hq13 => exact fun _ _ _ h => h
    case hl13 => (simp only [List.setIfInBounds_toArray, List.set_cons_succ, List.set_cons_zero]; try rfl)
    case hw13 => rfl
    case hv13 =>
      intro W hW
      obtain ⟨k0, k1, d0, d1, d2, d3, d4, d5, d6⟩ := HF.out W hW
      go_simp
      try with_reducible rfl
    case ha13 => (simp only [Act.put, List.setIfInBounds_toArray, List.set_cons_succ, List.set_cons_zero]; try rfl)
    refine wpAnyH_ready (rs := [12]) (by kernel_rfl) (by simp) ?_
    refine rh_cons (i := 12) (o := ?o14) (listed' := ?l14) ?hi14 ?hl14 ?hg14 ?hh14 ?hs14
    case hi14 => (simp only [List.getElem?_toArray, List.getElem?_cons_succ, List.getElem?_cons_zero]; try rfl)
    case hl14 => (simp only [List.setIfInBounds_toArray, List.set_cons_succ, List.set_cons_zero]; try rfl)
    case hg14 => rfl
    case hs14 => exact AllReadyH.nil
    intro K hK
    go_simp
    refine (cPredV (HV1.out.on HS0.out) HN.out m.m.c (mkV (s.c + 1) nd)).mono ?_
    rintro z wa ⟨va, rfl, hv, hB⟩
    obtain ⟨p, rfl, hp⟩ := hv.1.asSv
    have HSa := hid (HS0.out.trans (hB.mono HS0.out.size))
    have HVa := hid hv
    clear hv hB hp
    skip
    refine hK.out _ _ HSa.out ?_
    clear hK K
    refine rh_takeS (i := 13) (o := ?o15) (v := ?v15) (listed' := ?l15) (a' := ?a15) ?hi15 (by kernel_rfl) (by kernel_rfl) (by kernel_rfl) ?hq15 ?hl15 ?hw15 ?hv15 ?ha15 HSa.out ?hh15
    case hi15 => (simp only [List.getElem?_toArray, List.getElem?_cons_succ, List.getElem?_cons_zero]; try rfl)
    case hq15 => exact fun _ _ _ h => h
    case hl15 => (simp only [List.setIfInBounds_toArray, List.set_cons_succ, List.set_cons_zero]; try rfl)
    case hw15 => rfl
    case hv15 =>
      intro W hW
      go_simp
      have := run_buildV m.m.vt p W
      go_simp
      try with_reducible rfl
    case ha15 => (simp only [Act.put, List.setIfInBounds_toArray, List.set_cons_succ, List.set_cons_zero]; try rfl)
    refine rh_takeS (i := 15) (o := ?o16) (v := ?v16) (listed' := ?l16) (a' := ?a16) ?hi16 (by kernel_rfl) (by kernel_rfl) (by kernel_rfl) ?hq16 ?hl16 ?hw16 ?hv16 ?ha16 HSa.out ?hh16
    case hi16 => (simp only [List.getElem?_toArray, List.getElem?_cons_succ, List.getElem?_cons_zero]; try rfl)
    case hq16 => exact fun _ _ _ h => h
    case hl16 => (simp only [List.setIfInBounds_toArray, List.set_cons_succ, List.set_cons_zero]; try rfl)
    case hw16 => rfl
    case hv16 =>
      intro W hW
      have := run_buildRef m.m.vt (mkV (s.c + 1) nd) p W
      go_simp
      try with_reducible rfl
    case ha16 => (simp only [Act.put, List.setIfInBounds_toArray, List.set_cons_succ, List.set_cons_zero]; try rfl)
    refine wpAnyH_ready (rs := [16]) (by kernel_rfl) (by simp) ?_
    refine rh_cons (i := 16) (o := ?o17) (listed' := ?l17) ?hi17 ?hl17 ?hg17 ?hh17 ?hs17
    case hi17 => (simp only [List.getElem?_toArray, List.getElem?_cons_succ, List.getElem?_cons_zero]; try rfl)
    case hl17 => (simp only [List.setIfInBounds_toArray, List.set_cons_succ, List.set_cons_zero]; try rfl)
    case hg17 => rfl
    case hs17 => exact AllReadyH.nil
    intro K hK
    go_simp
    refine (cBackV (HV1.out.on HSa.out) m.m { zM with so := 2, vt := m.m.vt, vp := p, s := mkV (s.c + 1) nd }).mono ?_
    intro z wb hp
    have hO := OutD.back (m := m) _ [] [] hp (HV1.out.on HSa.out) (HT1.out.trans (Tch.ofBelow HSa.out)) HVa.out.setF (nilF _ _) (nilF _ _)
    obtain ⟨vz, hvz, hBz⟩ : ∃ v, z = .returned v ∧ Below wa.heap.size wa wb := by obtain ⟨v, e, _, _, hB⟩ := hp; exact ⟨v, e, hB⟩
    subst hvz
    have HO := hid hO
    have HSb := hid (HSa.out.trans (hBz.mono HSa.out.size))
    clear hp hO hBz
    refine hK.out _ _ HSb.out ?_
    clear hK K
    refine rh_takeS (i := 17) (o := ?o18) (v := ?v18) (listed' := ?l18) (a' := ?a18) ?hi18 (by kernel_rfl) (by kernel_rfl) (by kernel_rfl) ?hq18 ?hl18 ?hw18 ?hv18 ?ha18 HSb.out ?hh18
    case hi18 => (simp only [List.getElem?_toArray, List.getElem?_cons_succ, List.getElem?_cons_zero]; try rfl)
    case hq18 => exact fun _ _ _ h => h
    case hl18 => (simp only [List.setIfInBounds_toArray, List.set_cons_succ, List.set_cons_zero]; try rfl)
    case hw18 => rfl
    case hv18 =>
      intro W hW
      skip
      go_simp
      try with_reducible rfl
    case ha18 => (simp only [Act.put, List.setIfInBounds_toArray, List.set_cons_succ, List.set_cons_zero]; try rfl)
    refine wpAnyH_done (by kernel_rfl) ?_ _
    go_wp2_with fail
    go_ret
    have hr : refuseF nd s m = (freshS nd s, [backA nd m { zA with so := 2, vt := m.m.vt, vl := predL s.xs m.m.c (mkV (s.c + 1) nd), s := mkV (s.c + 1) nd }]) := by unfold refuseF; rw [if_pos h0]
    rw [hr]
    have := HO.out
    rw [show (freshS nd s).xs = s.xs by rw [fresh_ok h0]] at this
    exact this
  · go_at_call 117
    refine hFr.mono ?_
    rintro e w1 ⟨rfl, hV1, hT1⟩
    rw [decide_eq_false h0]
    have HV1 := hid hV1
    have HT1 := hid ((Tch.ofBelow HB.out).trans hT1)
    have HM1 : Hid (OM w1 w.heap.size m.m) := hid (hT1.ob HM.out HOF.out)
    clear hV1 hT1 hFr HV HM
    go_wp2_with fail
    go_ret
    have hr : refuseF nd s m = (freshS nd s, []) := by unfold refuseF; rw [if_neg h0]
    rw [hr]
    exact OutD.none rfl HV1.out HT1.out
end Go.Proofs.YtlehcaacfgocaaaGreat
namespace Go.Proofs.YtlehcaacfgocaaaGreat
set_option linter.unusedVariables false
open Go.RowKit
open Go.Lib (hid)
def PutAt (l : List C7) (c : C7) (k : Nat) (done : Bool) (out : List C7) : Prop :=
  (done = false ∧ out = l.take k ∧ (∀ x ∈ l.take k, x.i ≤ c.i)) ∨
  (done = true ∧ ∃ m, m < k ∧ (∀ x ∈ l.take m, x.i ≤ c.i) ∧ (∃ y, l[m]? = some y ∧ c.i < y.i) ∧ out = l.take m ++ c :: (l.take k).drop m)
theorem PutAt.start (l : List C7) (c : C7) : PutAt l c 0 false [] := .inl ⟨rfl, by simp, by simp⟩
theorem PutAt.stay {l : List C7} {c x : C7} {k : Nat} {out : List C7} (h : PutAt l c k false out) (hx : l[k]? = some x) (hle : x.i ≤ c.i) : PutAt l c (k + 1) false (out ++ [x]) := by
  rcases h with ⟨_, rfl, h3⟩ | ⟨h, _⟩
  · refine .inl ⟨rfl, (take_snoc hx).symm, fun y hy => ?_⟩
    rw [take_snoc hx] at hy
    rcases List.mem_append.1 hy with hy | hy
    · exact h3 y hy
    · rw [List.mem_singleton] at hy; subst hy; exact hle
  · cases h
theorem PutAt.put {l : List C7} {c x : C7} {k : Nat} {out : List C7} (h : PutAt l c k false out) (hx : l[k]? = some x) (hgt : c.i < x.i) : PutAt l c (k + 1) true (out ++ [c] ++ [x]) := by
  have hk := (List.getElem?_eq_some_iff.1 hx).1
  rcases h with ⟨_, rfl, h3⟩ | ⟨h, _⟩
  · refine .inr ⟨rfl, k, by omega, h3, ⟨x, hx, hgt⟩, ?_⟩
    rw [take_snoc hx, List.drop_append_of_le_length (by simp; omega), List.drop_of_length_le (by simp; omega)]
    simp
  · cases h
theorem PutAt.len {l : List C7} {c : C7} {k : Nat} {d : Bool} {out : List C7} (h : PutAt l c k d out) : out.length ≤ k + 1 := by
  rcases h with ⟨_, rfl, _⟩ | ⟨_, m, hm, _, _, rfl⟩
  · simp; omega
  · simp; omega
theorem takeWhile_all {l : List C7} {n : Int} (h : ∀ x ∈ l, x.i ≤ n) : l.takeWhile (fun x => decide (x.i ≤ n)) = l ∧ l.dropWhile (fun x => decide (x.i ≤ n)) = [] := by
  induction l with
  | nil => simp
  | cons a l ih =>
    have := ih fun x hx => h x (List.mem_cons_of_mem _ hx)
    have ha := h a (List.mem_cons_self ..)
    simp [ha, this.1, this.2]
theorem takeWhile_upto {n : Int} : ∀ (m : Nat) (l : List C7), (∀ x ∈ l.take m, x.i ≤ n) → (∃ y, l[m]? = some y ∧ n < y.i) → l.takeWhile (fun x => decide (x.i ≤ n)) = l.take m ∧ l.dropWhile (fun x => decide (x.i ≤ n)) = l.drop m
  | 0, [], _, ⟨y, hy, _⟩ => by simp at hy
  | 0, a :: l, _, ⟨y, hy, hn⟩ => by
    simp at hy; subst hy
    have : ¬ a.i ≤ n := by omega
    simp [this]
  | m + 1, [], _, ⟨y, hy, _⟩ => by simp at hy
  | m + 1, a :: l, h, ⟨y, hy, hn⟩ => by
    have ha := h a (by simp)
    have := takeWhile_upto m l (fun x hx => h x (by simp; exact .inr hx)) ⟨y, by simpa using hy, hn⟩
    simp [ha, this.1, this.2]
theorem PutAt.all {l : List C7} {c : C7} {out : List C7} (hn : placeI l c.i = none) (h : PutAt l c l.length true out) : putL l c = out := by
  unfold putL; rw [hn, if_neg (by simp)]
  rcases h with ⟨h, _⟩ | ⟨_, m, hm, h3, h4, rfl⟩
  · cases h
  · rw [(takeWhile_upto m l h3 h4).1, (takeWhile_upto m l h3 h4).2, List.take_length]
theorem PutAt.none {l : List C7} {c : C7} {out : List C7} (hn : placeI l c.i = none) (h : PutAt l c l.length false out) : putL l c = out ++ [c] := by
  unfold putL; rw [hn, if_neg (by simp)]
  rcases h with ⟨_, rfl, h3⟩ | ⟨h, _⟩
  · rw [List.take_length] at h3
    rw [(takeWhile_all h3).1, (takeWhile_all h3).2, List.take_length]
  · cases h
theorem own_drewN {w : World} {base : Nat} {e : TypeId} {size : Nat} {v : Value} {n : Nat} {xs : List Value} (h : w.ownsRow base e size v n xs) (q : Nat) : (w.drewN q).ownsRow base e size v n xs := h
theorem own_mono {w : World} {B B' : Nat} {e : TypeId} {size : Nat} {v : Value} {n : Nat} {xs : List Value} (h : w.ownsRow B e size v n xs) (hB : B' ≤ B) : w.ownsRow B' e size v n xs := by
  refine ⟨h.1, ?_⟩
  rcases h.2 with h2 | ⟨g, cap, cur, rfl, hb, r⟩
  · exact .inl h2
  · exact .inr ⟨g, cap, cur, rfl, Nat.le_trans hB hb, r⟩
end Go.Proofs.YtlehcaacfgocaaaGreat
namespace Go.Proofs.YtlehcaacfgocaaaGreat
set_option linter.unusedVariables false
open Go.RowKit
open Go.Lib (hid)
theorem Sl.drewN {w : World} {v : Value} {cs : List C7} (h : Sl w v cs) (q : Nat) : Sl (w.drewN q) v cs := h
theorem Own.parts {w : World} {B : Nat} {v : Value} {cs : List C7} (h : Own w B v cs) (h0 : 0 < cs.length) : ∃ g cap n, v = .slice (some ⟨g, 0, none⟩) n cap ∧ n = cs.length ∧ B ≤ g ∧ g < w.heap.size ∧
    ∀ j c, cs[j]? = some c → w.cell? ⟨g, j * 7, none⟩ = some (.int .i64 c.i) ∧ w.cell? ⟨g, j * 7 + 1, none⟩ = some (.int .i64 c.k) ∧ w.cell? ⟨g, j * 7 + 2, none⟩ = some (.int .i64 c.s) ∧ w.cell? ⟨g, j * 7 + 3, none⟩ = some (.int .i64 c.t) ∧
    w.cell? ⟨g, j * 7 + 4, none⟩ = some (.int .i64 c.d) ∧ w.cell? ⟨g, j * 7 + 5, none⟩ = some (.int .i64 c.p) ∧ w.cell? ⟨g, j * 7 + 6, none⟩ = some (.int .i64 c.q) := by
  rcases h.shape with ⟨_, rfl⟩ | ⟨g, cap, rfl, hb, hl, hc⟩
  · simp at h0
  · refine ⟨g, cap, _, rfl, rfl, hb, hl, fun j c hj => ?_⟩
    have := hc.at hj
    simp only [Nat.zero_add] at this
    exact this
end Go.Proofs.YtlehcaacfgocaaaGreat
namespace Go.Proofs.YtlehcaacfgocaaaGreat
set_option linter.unusedVariables false
open Go.RowKit
open Go.Lib (hid)
end Go.Proofs.YtlehcaacfgocaaaGreat
namespace Go.Proofs.YtlehcaacfgocaaaGreat
set_option linter.unusedVariables false
open Go.RowKit
open Go.Lib (hid)
theorem OwnI.asSlice {w : World} {B : Nat} {v : Value} {l : List Int} (h : OwnI w B v l) : ∃ (g : Option Addr) (cap n : Nat), v = .slice g n cap ∧ n = l.length := by
  rcases h.2 with ⟨rfl, h0⟩ | ⟨g, cap, cur, rfl, _⟩
  · exact ⟨none, 0, 0, rfl, h0.symm⟩
  · exact ⟨_, cap, _, rfl, rfl⟩
def inOrder (l : List Int) : List Int := l.mergeSort fun x y => decide (x ≤ y)
theorem inOrder_nil : inOrder [] = [] := by simp [inOrder]
theorem inOrder_len (l : List Int) : (inOrder l).length = l.length := by simp [inOrder]
theorem inOrder_has (l : List Int) (x : Int) : (inOrder l).contains x = l.contains x := by
  rw [Bool.eq_iff_iff, List.contains_iff_mem, List.contains_iff_mem]
  unfold inOrder
  exact (List.mergeSort_perm l _).mem_iff
theorem inOrder_rises (l : List Int) : (inOrder l).Pairwise (· ≤ ·) := by
  unfold inOrder
  have := List.pairwise_mergeSort (le := fun x y : Int => decide (x ≤ y)) (fun a b c h1 h2 => by simp at *; omega) (fun a b => by simp; omega) l
  exact this.imp fun h => by simpa using h
theorem cSortNames {w : World} {B : Nat} {v : Value} {l : List Int} (h : OwnI w B v l) (hB : B ≤ w.heap.size) (hl : l.length ≤ 100000) : Calls Tryz.prog 193 #[v] w fun e w' => e = .returned (.tuple #[]) ∧ SlI w' v (inOrder l) ∧ Below B w w' := by
  rcases h.2 with ⟨rfl, h0⟩ | ⟨g, cap, cur, rfl, hb, hg, hn, hm, hs, ht⟩
  · obtain rfl := List.length_eq_zero_iff.1 h0
    refine (Tryz.slices_Sort_int_none none 0 w).mono ?_
    rintro e w' ⟨rfl, rfl⟩
    exact ⟨rfl, by rw [inOrder_nil]; exact ⟨0, 0, 0, none, rfl, fun h => absurd h (by simp), fun j x hx => by simp at hx, fun h => absurd h (by simp)⟩, Below.refl _ _⟩
  · have hgl := (Array.getElem?_eq_some_iff.1 hg).1
    refine (Tryz.slices_Sort_int g 0 cap l w (holds_of_blockI hg (by simpa [nums] using ht)) hgl (by omega)).mono ?_
    rintro e w' ⟨rfl, n, os, rfl⟩
    have hO := ownsRow_sortedI (w := w) (n := n) (os := os) (ss := l) (ts := inOrder l) (inOrder_len l) hb hg hn hm hs
    have hO' : OwnI (Go.Sort.grow (Go.Sort.putRow (Value.int .i64) (Go.Sort.ahead w n) g 0 (inOrder l).toArray) os) B (.slice (some ⟨g, 0, none⟩) l.length cap) (inOrder l) := by
      unfold OwnI; rw [inOrder_len]; exact hO
    exact ⟨rfl, hO'.sl, (Below.refl _ w).grown (grownBy_sortedI _) hB (fun k hk => by cases hk; exact hb)⟩
theorem cSearch {w : World} {v : Value} {l : List Int} (h : SlI w v (inOrder l)) (hl : l.length ≤ 100000) (x : Int) : ∃ cnt : Nat, Calls Tryz.prog 194 #[v, .int .i64 x] w fun e w' => e = .returned (.tuple #[.int .i64 cnt, .bool (l.contains x)]) ∧ ∃ q, w' = w.drewN q := by
  obtain ⟨b, o, cap, a, rfl, ha, hc, hb⟩ := h
  by_cases h0 : 0 < (inOrder l).length
  · obtain rfl := ha h0
    refine ⟨((inOrder l).take (inOrder l).length).countP (fun y => decide (y < x)), (Tryz.slices_BinarySearch_int b o (inOrder l).length cap (inOrder l) x w (Nat.le_refl _) (by rw [inOrder_len]; omega) (fun j hj => hc j _ (by rw [List.getD, List.getElem?_eq_getElem hj]; rfl)) (by rw [List.take_length]; exact inOrder_rises l)).mono ?_⟩
    rintro e w' ⟨rfl, hq⟩
    have e : ((inOrder l).take (inOrder l).length).contains x = l.contains x := by rw [List.take_length, inOrder_has]
    exact ⟨by rw [e], hq⟩
  · have hl0 : l = [] := List.length_eq_zero_iff.1 (by rw [inOrder_len] at h0; omega)
    subst hl0
    rw [inOrder_nil]
    refine ⟨0, (Tryz.slices_BinarySearch_int_empty a cap x w).mono ?_⟩
    rintro e w' ⟨rfl, rfl⟩
    exact ⟨rfl, 0, rfl⟩
end Go.Proofs.YtlehcaacfgocaaaGreat
namespace Go.Proofs.YtlehcaacfgocaaaGreat
set_option linter.unusedVariables false
open Go.RowKit
open Go.Lib (hid)
set_option maxHeartbeats 800000 in
set_option maxRecDepth 100000 in
theorem cMinus {v v2 : Value} {cs ds : List C7} {w : World} (h : Sl w v cs) (h2 : Sl w v2 ds) (hl : cs.length ≤ 100000) (hl2 : ds.length ≤ 100000) : Calls Tryz.prog 179 #[v, v2] w fun e w' => ∃ r, e = .returned r ∧ Own w' w.heap.size r (minusL cs ds) ∧ Below w.heap.size w w' := by
  have hI := cIds h2 hl2
  clear h2
  obtain ⟨b, o, cap, a, rfl, ha, hc, hb⟩ := h.open
  clear h
  obtain ⟨i0, hi, hz0, hz1, hz2⟩ := info_parts Tryz.infoC
  have hil : (idsL ds).length ≤ 100000 := by unfold idsL; simpa using hl2
  go_enter Tryz.func179, Tryz.ntmps179
  go_wp2_with (go_at_call 173; refine hI.mono ?_; rintro e w1 ⟨r, rfl, hown1, hB1⟩; obtain ⟨g1, cap1, n1, rfl, hn1⟩ := hown1.asSlice; clear hn1)
  have hS := cSortNames hown1 hB1.size hil
  clear hI hown1
  go_wp2_with (go_at_call 193; refine hS.mono ?_; rintro e w2 ⟨rfl, hN2, hB2⟩)
  have HBB := hid (hB1.trans hB2)
  have HN := hid hN2
  clear hB1 hB2 hN2 hS
  go_loopw [6, 17] (fun u i wr => ∃ k : Nat, k ≤ cs.length ∧ i = .int .i64 k ∧ Own wr w2.heap.size u (minusL (cs.take k) ds) ∧ Below w2.heap.size w2 wr) (fun _ i _ => cs.length - (intOf i).toNat)
  case atStart => exact ⟨0, Nat.zero_le _, rfl, Own.nil _ _, Below.refl _ _⟩
  case round =>
    obtain ⟨k, hk, rfl, hown, hB⟩ := hrel
    have hsz := hB.size
    have hml : (minusL (cs.take k) ds).length ≤ k := Nat.le_trans (minus_len _ _) (by simp; omega)
    have HB := hid hB
    have HO := hid hown
    by_cases hlt : k < cs.length
    · obtain rfl := ha (by omega)
      obtain ⟨c, hcc⟩ : ∃ c, cs[k]? = some c := ⟨cs[k], List.getElem?_eq_getElem hlt⟩
      have hbw := hb (by omega)
      obtain ⟨c0, c1, c2, c3, c4, c5, c6⟩ := (hc.on (HBB.out.trans (hB.mono HBB.out.size)) hbw).at hcc
      obtain ⟨cnt, hQ⟩ := cSearch ((HN.out.on hB).on ((Below.refl _ wr).alloc (Nat.le_refl _) (.cells #[.int .i64 c.i, .int .i64 c.k, .int .i64 c.s, .int .i64 c.t, .int .i64 c.d, .int .i64 c.p, .int .i64 c.q] 45))) hil c.i
      rw [ids_has] at hQ
      have HC := hid hcc
      clear hcc hB
      rcases hp : placeI ds c.i with _ | j
      · rw [hp] at hQ
        simp only [Option.isSome_none] at hQ
        have HP := hid hp
        clear hp
        go_wp2_with (first | (go_at_call 194; refine hQ.mono ?_; rintro e w' ⟨rfl, q, rfl⟩) | (at_builtin; refine wpList_append_own _ rfl _ _ 46 rfl w2.heap.size 45 i0 _ 7 56 Tryz.underlying46 hi hz0 hz1 hz2 rfl (by decide) _ _ _ rfl ((own_drewN (hown.alloc _) _).alloc _) ⟨wr.heap.size + 1, 0, none⟩ 1 1 c.cells rfl rfl ?c1 ?c2 ?c3 ?c4 ?c5 ?_))
        case c1 => exact new_cell (by first | rfl | simp)
        case c2 => exact cells_one c
        case c3 => unfold maxLen; omega
        case c4 => omega
        case c5 => first | omega | (simp; omega)
        intro v' w3 hown' hgrow _
        have R := Own.grows ((Below.drewN' (HB.out.alloc hsz _) _).alloc (by simp; omega) _) (by simp; omega) (fun k hk => (HO.out.lt k hk).1) hown' hgrow
        rw [← minus_keep HC.out HP.out] at R
        clear hown' hgrow hown
        go_wp2
        go_roundw
        case rel => exact ⟨k + 1, by omega, by go_num, R.1, R.2⟩
        case measure => simp [intOf]; omega
      · rw [hp] at hQ
        simp only [Option.isSome_some] at hQ
        rw [← minus_drop HC.out hp] at hown
        have HR := hid hown
        clear hp hown
        go_wp2_with (go_at_call 194; refine hQ.mono ?_; rintro e w' ⟨rfl, q, rfl⟩)
        go_roundw
        case rel => exact ⟨k + 1, by omega, by go_num, own_drewN (HR.out.alloc _) _, Below.drewN' (HB.out.alloc hsz _) _⟩
        case measure => simp [intOf]; omega
    · rw [List.take_of_length_le (by omega)] at hown
      have HR := hid hown
      clear hown
      go_wp2
      go_ret
      exact ⟨_, rfl, own_mono HR.out HBB.out.size, HBB.out.trans (hB.mono HBB.out.size)⟩
end Go.Proofs.YtlehcaacfgocaaaGreat
