import Derived.Test.YtlehcaacfgocaaaGreatG44
import Derived.Deep.CutRange
import Derived.Test.YtlehcaacfgocaaaGreatVAskedZm
namespace Go.Proofs.YtlehcaacfgocaaaGreat
set_option linter.unusedVariables false
open Go.RowKit
open Go.Lib (hid)
theorem placeV_found {l : List C7} {i : Int} (h : foundB l i = true) : 0 ≤ placeV l i := by
  unfold foundB at h
  rcases hp : placeI l i with _ | k
  · rw [hp] at h; cases h
  · rw [placeV_some hp]; omega
abbrev OSm (w : World) (q : Nat) (m : Sm) : Prop := w.heap[q]? = some (.cells m.arr 74 (0, 0))
theorem OSm.cell {w : World} {q : Nat} {m : Sm} (h : OSm w q m) {j : Nat} {v : Value} (hv : m.list[j]? = some v) : w.cell? ⟨q, j, none⟩ = some v := by
  rw [cellAt' h, ← Array.getElem?_toList, Sm.toList]; exact hv
set_option maxHeartbeats 16000000 in
set_option maxRecDepth 100000 in
theorem cFair {w : World} {B : Bd} {q x b b2 N : Nat} {nd : Int} {s : Sd} {wv : Value} {ws : List Ms} {was now : Sx} (h : Vo w B q x b b2 N nd s wv ws) (hwf : (Lit.int .i64 was.m.c.i).wf = true) (hn : Sl w now.m.p.v now.l) (hl : now.l.length ≤ 100000) (hf : FairP s.xs was.sa now.sa) :
    Calls Tryz.prog 24 #[ptr q, .agg was.m.arr, .agg now.m.arr] w fun e w' => e = .returned (.bool true) ∧ Below w.heap.size w w' := by
  have HB0 := hid (laid2_b w (.cells was.m.arr 74) (.cells now.m.arr 74))
  have HS0 : Hid (OSm ((w.alloc (.cells was.m.arr 74)).alloc (.cells now.m.arr 74)) w.heap.size was.m) := hid (laid2_0 w _ _)
  have HN0 : Hid (OSm ((w.alloc (.cells was.m.arr 74)).alloc (.cells now.m.arr 74)) (w.heap.size + 1) now.m) := hid (laid2_1 w _ _)
  have HV := hid h
  have HWF := hid hwf
  have HSN := hid hn
  have HLN := hid hl
  have HFP := hid hf
  clear h hwf hn hl hf
  go_enter Tryz.func24, Tryz.ntmps24
  go_upto_region 1 with fail
  generalize ((w.alloc (.cells was.m.arr 74)).alloc (.cells now.m.arr 74)) = W0 at HB0 HS0 HN0 ⊢
  obtain ⟨p4, hp4⟩ : ∃ p, p = w.heap.size := ⟨_, rfl⟩
  obtain ⟨p5, hp5⟩ : ∃ p, p = w.heap.size + 1 := ⟨_, rfl⟩
  rw [← hp5] at HN0 ⊢
  rw [← hp4] at HS0 ⊢
  clear hp4 hp5
  have HV0 := hid (HV.out.on HB0.out)
  have HFG : Hid (∀ W, Below W0.heap.size W0 W → W.cell? ⟨q, 0, none⟩ = some (ptr x) ∧ W.cell? ⟨p4, 0, none⟩ = some (.int .i64 was.m.c.i)) := hid fun W hW => ⟨(HV0.out.on hW).cell0, (show OSm W p4 was.m from heapB HS0.out hW (Array.getElem?_eq_some_iff.1 HS0.out).1).cell (j := 0) rfl⟩
  obtain ⟨y, hy⟩ : ∃ z, z = lkE s.xs was.m.c.i := ⟨_, rfl⟩
  obtain ⟨hs9, hhs⟩ : ∃ z, z = hasE s.xs was.m.c.i := ⟨_, rfl⟩
  have HGC : Hid (∀ W, Below W0.heap.size W0 W → Calls Tryz.prog 21 #[ptr x, .int .i64 was.m.c.i] W fun e w' => e = .returned (.tuple #[.agg y.e.arr, .bool hs9]) ∧ Below W.heap.size W w') := hid fun W hW => by rw [hy, hhs, lkE_e]; exact cGetV (HV0.out.on hW) HWF.out
  have HYS : Hid (Sl w y.e.vp.v y.v ∧ y.v.length ≤ 1024) := hid (by
    rw [hy]
    by_cases hh : hasE s.xs was.m.c.i = true
    · exact ⟨(HV.out.all _ (lkE_mem hh).1).2.2, (HV.out.sh _ (lkE_mem hh).1).2.2⟩
    · rw [show lkE s.xs was.m.c.i = zEn by unfold lkE; rw [has_none (by simpa using hh)]; rfl]; exact ⟨nilS w, by simp⟩)
  have HFR := HFP.out
  unfold FairP at HFR
  rw [show (Sx.sa was).c.i = was.m.c.i from rfl, ← hy] at HFR
  have HFR2 := hid HFR
  clear HFR HFP hhs
  have HY := hid hy
  clear hy
  go_cut [7, 8] from 11 to 103 (fun u7 u8 wx => ∃ p7 : Nat, u7 = .pointer (some ⟨p7, 0, none⟩) ∧ u8 = .bool hs9 ∧ Hid (Below W0.heap.size W0 wx ∧ Ob wx p7 67 y.e))
  case first =>
    refine rh_start (S := fun W => Below W0.heap.size W0 W) (n := 14) (listed := #[false, false, false, false, false, false, false, false, false, false, false, false, false, false]) (by kernel_rfl) rfl rfl ?_
    have HS0 : Hid (Below W0.heap.size W0 W0.drew) := hid (belowDrew (Below.refl _ W0))
    generalize W0.drew = wd at HS0 ⊢
    refine rh_takeS (i := 0) (o := ?o1) (v := ?v1) (listed' := ?l1) (a' := ?a1) ?hi1 (by kernel_rfl) (by kernel_rfl) (by kernel_rfl) ?hq1 ?hl1 ?hw1 ?hv1 ?ha1 HS0.out ?hh1
    case hi1 => (simp only [List.getElem?_toArray, List.getElem?_cons_zero]; try rfl)
    case hq1 => exact fun _ _ _ h => h
    case hl1 => (simp only [List.setIfInBounds_toArray, List.set_cons_zero]; try rfl)
    case hw1 => rfl
    case hv1 =>
      intro W hW
      obtain ⟨k0, k1⟩ := HFG.out W hW
      go_simp
      try with_reducible rfl
    case ha1 => (simp only [Act.put, List.setIfInBounds_toArray, List.set_cons_succ, List.set_cons_zero]; try rfl)
    refine rh_takeS (i := 1) (o := ?o2) (v := ?v2) (listed' := ?l2) (a' := ?a2) ?hi2 (by kernel_rfl) (by kernel_rfl) (by kernel_rfl) ?hq2 ?hl2 ?hw2 ?hv2 ?ha2 HS0.out ?hh2
    case hi2 => (simp only [List.getElem?_toArray, List.getElem?_cons_succ, List.getElem?_cons_zero]; try rfl)
    case hq2 => exact fun _ _ _ h => h
    case hl2 => (simp only [List.setIfInBounds_toArray, List.set_cons_succ, List.set_cons_zero]; try rfl)
    case hw2 => rfl
    case hv2 =>
      intro W hW
      obtain ⟨k0, k1⟩ := HFG.out W hW
      go_simp
      try with_reducible rfl
    case ha2 => (simp only [Act.put, List.setIfInBounds_toArray, List.set_cons_succ, List.set_cons_zero]; try rfl)
    refine rh_takeS (i := 2) (o := ?o3) (v := ?v3) (listed' := ?l3) (a' := ?a3) ?hi3 (by kernel_rfl) (by kernel_rfl) (by kernel_rfl) ?hq3 ?hl3 ?hw3 ?hv3 ?ha3 HS0.out ?hh3
    case hi3 => (simp only [List.getElem?_toArray, List.getElem?_cons_succ, List.getElem?_cons_zero]; try rfl)
    case hq3 => exact fun _ _ _ h => h
    case hl3 => (simp only [List.setIfInBounds_toArray, List.set_cons_succ, List.set_cons_zero]; try rfl)
    case hw3 => rfl
    case hv3 =>
      intro W hW
      obtain ⟨k0, k1⟩ := HFG.out W hW
      go_simp
      try with_reducible rfl
    case ha3 => (simp only [Act.put, List.setIfInBounds_toArray, List.set_cons_succ, List.set_cons_zero]; try rfl)
    refine rh_takeS (i := 3) (o := ?o4) (v := ?v4) (listed' := ?l4) (a' := ?a4) ?hi4 (by kernel_rfl) (by kernel_rfl) (by kernel_rfl) ?hq4 ?hl4 ?hw4 ?hv4 ?ha4 HS0.out ?hh4
    case hi4 => (simp only [List.getElem?_toArray, List.getElem?_cons_succ, List.getElem?_cons_zero]; try rfl)
    case hq4 => exact fun _ _ _ h => h
    case hl4 => (simp only [List.setIfInBounds_toArray, List.set_cons_succ, List.set_cons_zero]; try rfl)
    case hw4 => rfl
    case hv4 =>
      intro W hW
      obtain ⟨k0, k1⟩ := HFG.out W hW
      go_simp
      try with_reducible rfl
    case ha4 => (simp only [Act.put, List.setIfInBounds_toArray, List.set_cons_succ, List.set_cons_zero]; try rfl)
    refine rh_takeS (i := 4) (o := ?o5) (v := ?v5) (listed' := ?l5) (a' := ?a5) ?hi5 (by kernel_rfl) (by kernel_rfl) (by kernel_rfl) ?hq5 ?hl5 ?hw5 ?hv5 ?ha5 HS0.out ?hh5
    case hi5 => (simp only [List.getElem?_toArray, List.getElem?_cons_succ, List.getElem?_cons_zero]; try rfl)
    case hq5 => exact fun _ _ _ h => h
    case hl5 => (simp only [List.setIfInBounds_toArray, List.set_cons_succ, List.set_cons_zero]; try rfl)
    case hw5 => rfl
    case hv5 =>
      intro W hW
      obtain ⟨k0, k1⟩ := HFG.out W hW
      go_simp
      try with_reducible rfl
    case ha5 => (simp only [Act.put, List.setIfInBounds_toArray, List.set_cons_succ, List.set_cons_zero]; try rfl)
    refine rh_takeS (i := 5) (o := ?o6) (v := ?v6) (listed' := ?l6) (a' := ?a6) ?hi6 (by kernel_rfl) (by kernel_rfl) (by kernel_rfl) ?hq6 ?hl6 ?hw6 ?hv6 ?ha6 HS0.out ?hh6
    case hi6 => (simp only [List.getElem?_toArray, List.getElem?_cons_succ, List.getElem?_cons_zero]; try rfl)
    case hq6 => exact fun _ _ _ h => h
    case hl6 => (simp only [List.setIfInBounds_toArray, List.set_cons_succ, List.set_cons_zero]; try rfl)
    case hw6 => rfl
    case hv6 =>
      intro W hW
      obtain ⟨k0, k1⟩ := HFG.out W hW
      go_simp
      try with_reducible rfl
    case ha6 => (simp only [Act.put, List.setIfInBounds_toArray, List.set_cons_succ, List.set_cons_zero]; try rfl)
    refine rh_takeS (i := 6) (o := ?o7) (v := ?v7) (listed' := ?l7) (a' := ?a7) ?hi7 (by kernel_rfl) (by kernel_rfl) (by kernel_rfl) ?hq7 ?hl7 ?hw7 ?hv7 ?ha7 HS0.out ?hh7
    case hi7 => (simp only [List.getElem?_toArray, List.getElem?_cons_succ, List.getElem?_cons_zero]; try rfl)
    case hq7 => exact fun _ _ _ h => h
    case hl7 => (simp only [List.setIfInBounds_toArray, List.set_cons_succ, List.set_cons_zero]; try rfl)
    case hw7 => rfl
    case hv7 =>
      intro W hW
      obtain ⟨k0, k1⟩ := HFG.out W hW
      go_simp
      try with_reducible rfl
    case ha7 => (simp only [Act.put, List.setIfInBounds_toArray, List.set_cons_succ, List.set_cons_zero]; try rfl)
    refine wpAnyH_ready (rs := [7, 11]) (by kernel_rfl) (by simp) ?_
    refine rh_consW (i := 7) (o := ?o8) (listed' := ?l8) ?hi8 ?hl8 ?hg8 ?hh8 ?hs8
    case hi8 => (simp only [List.getElem?_toArray, List.getElem?_cons_succ, List.getElem?_cons_zero]; try rfl)
    case hl8 => (simp only [List.setIfInBounds_toArray, List.set_cons_succ, List.set_cons_zero]; try rfl)
    case hg8 => rfl
    case hh8 =>
      intro K hK
      go_simp
      refine (HGC.out _ HS0.out).mono ?_
      rintro z wa1 ⟨rfl, hB⟩
      have HS1 := hid (HS0.out.trans (hB.mono HS0.out.size))
      refine hK.out _ _ HS1.out ?_
      clear hK K
      refine rh_takeS (i := 8) (o := ?o9) (v := ?v9) (listed' := ?l9) (a' := ?a9) ?hi9 (by kernel_rfl) (by kernel_rfl) (by kernel_rfl) ?hq9 ?hl9 ?hw9 ?hv9 ?ha9 HS1.out ?hh9
      case hi9 => (simp only [List.getElem?_toArray, List.getElem?_cons_succ, List.getElem?_cons_zero]; try rfl)
      case hq9 => exact fun _ _ _ h => h
      case hl9 => (simp only [List.setIfInBounds_toArray, List.set_cons_succ, List.set_cons_zero]; try rfl)
      case hw9 => rfl
      case hv9 =>
        intro W hW
        skip
        go_simp
        try with_reducible rfl
      case ha9 => (simp only [Act.put, List.setIfInBounds_toArray, List.set_cons_succ, List.set_cons_zero]; try rfl)
      refine rh_takeS (i := 9) (o := ?o10) (v := ?v10) (listed' := ?l10) (a' := ?a10) ?hi10 (by kernel_rfl) (by kernel_rfl) (by kernel_rfl) ?hq10 ?hl10 ?hw10 ?hv10 ?ha10 HS1.out ?hh10
      case hi10 => (simp only [List.getElem?_toArray, List.getElem?_cons_succ, List.getElem?_cons_zero]; try rfl)
      case hq10 => exact fun _ _ _ h => h
      case hl10 => (simp only [List.setIfInBounds_toArray, List.set_cons_succ, List.set_cons_zero]; try rfl)
      case hw10 => rfl
      case hv10 =>
        intro W hW
        skip
        go_simp
        try with_reducible rfl
      case ha10 => (simp only [Act.put, List.setIfInBounds_toArray, List.set_cons_succ, List.set_cons_zero]; try rfl)
      refine rh_takeS (i := 10) (o := ?o11) (v := ?v11) (listed' := ?l11) (a' := ?a11) ?hi11 (by kernel_rfl) (by kernel_rfl) (by kernel_rfl) ?hq11 ?hl11 ?hw11 ?hv11 ?ha11 HS1.out ?hh11
      case hi11 => (simp only [List.getElem?_toArray, List.getElem?_cons_succ, List.getElem?_cons_zero]; try rfl)
      case hq11 => exact fun _ _ _ h => h
      case hl11 => (simp only [List.setIfInBounds_toArray, List.set_cons_succ, List.set_cons_zero]; try rfl)
      case hw11 => rfl
      case hv11 =>
        intro W hW
        skip
        go_simp
        try with_reducible rfl
      case ha11 => (simp only [Act.put, List.setIfInBounds_toArray, List.set_cons_succ, List.set_cons_zero]; try rfl)
      refine wpAnyH_ready (rs := [11]) (by kernel_rfl) (by simp) ?_
      refine rh_cons (i := 11) (o := ?o12) (listed' := ?l12) ?hi12 ?hl12 ?hg12 ?hh12 ?hs12
      case hi12 => (simp only [List.getElem?_toArray, List.getElem?_cons_succ, List.getElem?_cons_zero]; try rfl)
      case hl12 => (simp only [List.setIfInBounds_toArray, List.set_cons_succ, List.set_cons_zero]; try rfl)
      case hg12 => rfl
      case hs12 => exact AllReadyH.nil
      intro K hK
      go_simp
      have HS2 : Hid (Below W0.heap.size W0 (wa1.alloc zeroEc)) := hid (HS1.out.trans ((laid1_b wa1 zeroEc).mono HS1.out.size))
      have HZ2 : Hid ((wa1.alloc zeroEc).heap[wa1.heap.size]? = some zeroEc) := hid (laid1_0 wa1 zeroEc)
      have HLB2 : Hid (W0.heap.size ≤ wa1.heap.size) := hid HS1.out.size
      refine hK.out _ _ HS2.out ?_
      clear hK K
      refine wpAnyH_ready (rs := [12]) (by kernel_rfl) (by simp) ?_
      refine rh_storeN (i := 12) (o := ?o13) (listed' := ?l13) (x := ?x13) (y := ?y13) (b := wa1.heap.size) (T := 67) (y.e).arr (infoEc' (y.e)) (Ev.one (y.e)) ?hi13 ?hl13 ?hg13 ?ho13 ?hx13 ?hy13 ?hd13 HZ2.out (by rw [Ev.size]; rfl) ?hh13 ?hs13
      case hi13 => (simp only [List.getElem?_toArray, List.getElem?_cons_succ, List.getElem?_cons_zero]; try rfl)
      case hl13 => (simp only [List.setIfInBounds_toArray, List.set_cons_succ, List.set_cons_zero]; try rfl)
      case hg13 => rfl
      case ho13 => rfl
      case hx13 => rfl
      case hy13 => rfl
      case hd13 => rfl
      case hs13 => exact AllReadyH.nil
      intro wq hO hU
      have HSq := hid (HS2.out.trans (hU.below _ HLB2.out))
      refine ⟨HSq.out, ?_⟩
      refine rh_takeS (i := 13) (o := ?o14) (v := ?v14) (listed' := ?l14) (a' := ?a14) ?hi14 (by kernel_rfl) (by kernel_rfl) (by kernel_rfl) ?hq14 ?hl14 ?hw14 ?hv14 ?ha14 HSq.out ?hh14
      case hi14 => (simp only [List.getElem?_toArray, List.getElem?_cons_succ, List.getElem?_cons_zero]; try rfl)
      case hq14 => exact fun _ _ _ h => h
      case hl14 => (simp only [List.setIfInBounds_toArray, List.set_cons_succ, List.set_cons_zero]; try rfl)
      case hw14 => rfl
      case hv14 =>
        intro W hW
        skip
        go_simp
        try with_reducible rfl
      case ha14 => (simp only [Act.put, List.setIfInBounds_toArray, List.set_cons_succ, List.set_cons_zero]; try rfl)
      refine wpAnyH_done (by kernel_rfl) ?_ _
      go_wp2_with fail
      go_meet
      exact ⟨_, rfl, rfl, hid ⟨HSq.out, hO⟩⟩
    refine rh_cons (i := 11) (o := ?o15) (listed' := ?l15) ?hi15 ?hl15 ?hg15 ?hh15 ?hs15
    case hi15 => (simp only [List.getElem?_toArray, List.getElem?_cons_succ, List.getElem?_cons_zero]; try rfl)
    case hl15 => (simp only [List.setIfInBounds_toArray, List.set_cons_succ, List.set_cons_zero]; try rfl)
    case hg15 => rfl
    case hs15 => exact AllReadyH.nil
    intro K hK
    go_simp
    have HS3 : Hid (Below W0.heap.size W0 (wd.alloc zeroEc)) := hid (HS0.out.trans ((laid1_b wd zeroEc).mono HS0.out.size))
    have HZ3 : Hid ((wd.alloc zeroEc).heap[wd.heap.size]? = some zeroEc) := hid (laid1_0 wd zeroEc)
    have HLB3 : Hid (W0.heap.size ≤ wd.heap.size) := hid HS0.out.size
    refine hK.out _ _ HS3.out ?_
    clear hK K
    refine wpAnyH_ready (rs := [7]) (by kernel_rfl) (by simp) ?_
    refine rh_cons (i := 7) (o := ?o16) (listed' := ?l16) ?hi16 ?hl16 ?hg16 ?hh16 ?hs16
    case hi16 => (simp only [List.getElem?_toArray, List.getElem?_cons_succ, List.getElem?_cons_zero]; try rfl)
    case hl16 => (simp only [List.setIfInBounds_toArray, List.set_cons_succ, List.set_cons_zero]; try rfl)
    case hg16 => rfl
    case hs16 => exact AllReadyH.nil
    intro K hK
    go_simp
    refine (HGC.out _ HS3.out).mono ?_
    rintro z wa4 ⟨rfl, hB⟩
    have HS4 := hid (HS3.out.trans (hB.mono HS3.out.size))
    have HZ4 := hid (heapB HZ3.out hB (by simp))
    refine hK.out _ _ HS4.out ?_
    clear hK K
    refine rh_takeS (i := 8) (o := ?o17) (v := ?v17) (listed' := ?l17) (a' := ?a17) ?hi17 (by kernel_rfl) (by kernel_rfl) (by kernel_rfl) ?hq17 ?hl17 ?hw17 ?hv17 ?ha17 HS4.out ?hh17
    case hi17 => (simp only [List.getElem?_toArray, List.getElem?_cons_succ, List.getElem?_cons_zero]; try rfl)
    case hq17 => exact fun _ _ _ h => h
    case hl17 => (simp only [List.setIfInBounds_toArray, List.set_cons_succ, List.set_cons_zero]; try rfl)
    case hw17 => rfl
    case hv17 =>
      intro W hW
      skip
      go_simp
      try with_reducible rfl
    case ha17 => (simp only [Act.put, List.setIfInBounds_toArray, List.set_cons_succ, List.set_cons_zero]; try rfl)
    refine rh_takeS (i := 9) (o := ?o18) (v := ?v18) (listed' := ?l18) (a' := ?a18) ?hi18 (by kernel_rfl) (by kernel_rfl) (by kernel_rfl) ?hq18 ?hl18 ?hw18 ?hv18 ?ha18 HS4.out ?hh18
    case hi18 => (simp only [List.getElem?_toArray, List.getElem?_cons_succ, List.getElem?_cons_zero]; try rfl)
    case hq18 => exact fun _ _ _ h => h
    case hl18 => (simp only [List.setIfInBounds_toArray, List.set_cons_succ, List.set_cons_zero]; try rfl)
    case hw18 => rfl
    case hv18 =>
      intro W hW
      skip
      go_simp
      try with_reducible rfl
    case ha18 => (simp only [Act.put, List.setIfInBounds_toArray, List.set_cons_succ, List.set_cons_zero]; try rfl)
    refine rh_takeS (i := 10) (o := ?o19) (v := ?v19) (listed' := ?l19) (a' := ?a19) ?hi19 (by kernel_rfl) (by kernel_rfl) (by kernel_rfl) ?hq19 ?hl19 ?hw19 ?hv19 ?ha19 HS4.out ?hh19
    case hi19 => (simp only [List.getElem?_toArray, List.getElem?_cons_succ, List.getElem?_cons_zero]; try rfl)
    case hq19 => exact fun _ _ _ h => h
    case hl19 => (simp only [List.setIfInBounds_toArray, List.set_cons_succ, List.set_cons_zero]; try rfl)
    case hw19 => rfl
    case hv19 =>
      intro W hW
      skip
      go_simp
      try with_reducible rfl
    case ha19 => (simp only [Act.put, List.setIfInBounds_toArray, List.set_cons_succ, List.set_cons_zero]; try rfl)
    refine wpAnyH_ready (rs := [12]) (by kernel_rfl) (by simp) ?_
    refine rh_storeN (i := 12) (o := ?o20) (listed' := ?l20) (x := ?x20) (y := ?y20) (b := wd.heap.size) (T := 67) (y.e).arr (infoEc' (y.e)) (Ev.one (y.e)) ?hi20 ?hl20 ?hg20 ?ho20 ?hx20 ?hy20 ?hd20 HZ4.out (by rw [Ev.size]; rfl) ?hh20 ?hs20
    case hi20 => (simp only [List.getElem?_toArray, List.getElem?_cons_succ, List.getElem?_cons_zero]; try rfl)
    case hl20 => (simp only [List.setIfInBounds_toArray, List.set_cons_succ, List.set_cons_zero]; try rfl)
    case hg20 => rfl
    case ho20 => rfl
    case hx20 => rfl
    case hy20 => rfl
    case hd20 => rfl
    case hs20 => exact AllReadyH.nil
    intro wq hO hU
    have HSq := hid (HS4.out.trans (hU.below _ HLB3.out))
    refine ⟨HSq.out, ?_⟩
    refine rh_takeS (i := 13) (o := ?o21) (v := ?v21) (listed' := ?l21) (a' := ?a21) ?hi21 (by kernel_rfl) (by kernel_rfl) (by kernel_rfl) ?hq21 ?hl21 ?hw21 ?hv21 ?ha21 HSq.out ?hh21
    case hi21 => (simp only [List.getElem?_toArray, List.getElem?_cons_succ, List.getElem?_cons_zero]; try rfl)
    case hq21 => exact fun _ _ _ h => h
    case hl21 => (simp only [List.setIfInBounds_toArray, List.set_cons_succ, List.set_cons_zero]; try rfl)
    case hw21 => rfl
    case hv21 =>
      intro W hW
      skip
      go_simp
      try with_reducible rfl
    case ha21 => (simp only [Act.put, List.setIfInBounds_toArray, List.set_cons_succ, List.set_cons_zero]; try rfl)
    refine wpAnyH_done (by kernel_rfl) ?_ _
    go_wp2_with fail
    go_meet
    exact ⟨_, rfl, rfl, hid ⟨HSq.out, hO⟩⟩
  obtain ⟨p7, rfl, rfl, HH⟩ := hcut
  have HB1 := hid HH.out.1
  have HE1 := hid HH.out.2
  clear HH HFG HGC
  have HS1 : Hid (OSm wc p4 was.m) := hid (heapB HS0.out HB1.out (Array.getElem?_eq_some_iff.1 HS0.out).1)
  have HN1 : Hid (OSm wc p5 now.m) := hid (heapB HN0.out HB1.out (Array.getElem?_eq_some_iff.1 HN0.out).1)
  have HBW : Hid (Below w.heap.size w wc) := hid (HB0.out.trans (HB1.out.mono HB0.out.size))
  obtain ⟨wi, hwi⟩ : ∃ z, z = was.m.c.i := ⟨_, rfl⟩
  obtain ⟨wS, hws⟩ : ∃ z, z = was.m.c.s := ⟨_, rfl⟩
  obtain ⟨wt, hwt⟩ : ∃ z, z = was.m.t := ⟨_, rfl⟩
  obtain ⟨ni, hni⟩ : ∃ z, z = now.m.c.i := ⟨_, rfl⟩
  obtain ⟨ns, hns⟩ : ∃ z, z = now.m.c.s := ⟨_, rfl⟩
  obtain ⟨nt, hnt⟩ : ∃ z, z = now.m.t := ⟨_, rfl⟩
  obtain ⟨vt, hvt⟩ : ∃ z, z = y.e.vt := ⟨_, rfl⟩
  obtain ⟨dn, hdn⟩ : ∃ z, z = y.e.dn := ⟨_, rfl⟩
  have k0 : wc.cell? ⟨p4, 0, none⟩ = some (.int .i64 wi) := by rw [hwi]; exact HS1.out.cell (j := 0) rfl
  have k2 : wc.cell? ⟨p4, 2, none⟩ = some (.int .i64 wS) := by rw [hws]; exact HS1.out.cell (j := 2) rfl
  have k7 : wc.cell? ⟨p4, 7, none⟩ = some (.int .i64 wt) := by rw [hwt]; exact HS1.out.cell (j := 7) rfl
  have n0 : wc.cell? ⟨p5, 0, none⟩ = some (.int .i64 ni) := by rw [hni]; exact HN1.out.cell (j := 0) rfl
  have n2 : wc.cell? ⟨p5, 2, none⟩ = some (.int .i64 ns) := by rw [hns]; exact HN1.out.cell (j := 2) rfl
  have n7 : wc.cell? ⟨p5, 7, none⟩ = some (.int .i64 nt) := by rw [hnt]; exact HN1.out.cell (j := 7) rfl
  have n8 : wc.cell? ⟨p5, 8, none⟩ = some (.slice now.m.p.a now.m.p.n now.m.p.c) := HN1.out.cell (j := 8) rfl
  have e16 : wc.cell? ⟨p7, 16, none⟩ = some (.bool dn) := by rw [hdn]; exact HE1.out.cell (j := 16) rfl
  have e17 : wc.cell? ⟨p7, 17, none⟩ = some (.int .i64 vt) := by rw [hvt]; exact HE1.out.cell (j := 17) rfl
  have e18 : wc.cell? ⟨p7, 18, none⟩ = some (.slice y.e.vp.a y.e.vp.n y.e.vp.c) := HE1.out.cell (j := 18) rfl
  have hF1 := rFind (HYS.out.1.on HBW.out) (by have := HYS.out.2; omega) now.m.c.i
  have hF2 := rFind (HSN.out.on HBW.out) HLN.out was.m.c.i
  obtain ⟨z1, hz1⟩ : ∃ z, z = placeV y.v now.m.c.i := ⟨_, rfl⟩
  obtain ⟨z2, hz2⟩ : ∃ z, z = placeV now.l was.m.c.i := ⟨_, rfl⟩
  rw [← hz1, ← hni] at hF1
  rw [← hz2, ← hwi] at hF2
  have HF1 := hid hF1
  have HF2 := hid hF2
  have hfr := HFR2.out
  have HZ1 := hid hz1
  have HZ2 := hid hz2
  have hfr' : wi = ni ∨ wS ≠ ns ∨ (dn = true ∧ ((nt < vt ∧ 0 ≤ z1) ∨ (vt < nt ∧ 0 ≤ z2) ∨ vt = nt)) ∨ (dn = false ∧ ((wt < nt ∧ 0 ≤ z2) ∨ wt = nt)) := by
    rw [hwi, hws, hwt, hni, hns, hnt, hvt, hdn, hz1, hz2]
    rcases hfr with h | h | ⟨h0, ⟨h, h'⟩ | ⟨h, h'⟩ | h⟩ | ⟨h0, ⟨h, h'⟩ | h⟩
    · exact .inl h
    · exact .inr (.inl h)
    · exact .inr (.inr (.inl ⟨h0, .inl ⟨h, placeV_found h'⟩⟩))
    · exact .inr (.inr (.inl ⟨h0, .inr (.inl ⟨h, placeV_found h'⟩)⟩))
    · exact .inr (.inr (.inl ⟨h0, .inr (.inr h)⟩))
    · exact .inr (.inr (.inr ⟨h0, .inl ⟨h, placeV_found h'⟩⟩))
    · exact .inr (.inr (.inr ⟨h0, .inr h⟩))
  clear hfr hF1 hF2 hz1 hz2 hwi hws hwt hni hns hnt hvt hdn HFR2 HY
  by_cases h1 : wi = ni
  · have h1b : (wi == ni) = true := by simpa using h1
    clear h1 hfr'
    go_wp2_with fail
    go_ret
    exact ⟨rfl, HBW.out⟩
  have h1b : (wi == ni) = false := by simpa using h1
  by_cases h2 : wS = ns
  · have h2b : (wS != ns) = false := by simp [h2]
    have hr : (dn = true ∧ ((nt < vt ∧ 0 ≤ z1) ∨ (vt < nt ∧ 0 ≤ z2) ∨ vt = nt)) ∨ (dn = false ∧ ((wt < nt ∧ 0 ≤ z2) ∨ wt = nt)) := by
      rcases hfr' with h | h | h
      · exact absurd h h1
      · exact absurd h2 h
      · exact h
    clear hfr' h1 h2
    rcases hr with ⟨hd, hr⟩ | ⟨hd, hr⟩
    · subst hd
      rcases hr with ⟨h3, h4⟩ | ⟨h3, h4⟩ | h3
      · go_wp2_with (first
          | (go_at_call 53; first | (with_reducible refine HF1.out.mono ?_; rintro e w9 ⟨rfl, rfl⟩) | (with_reducible refine HF2.out.mono ?_; rintro e w9 ⟨rfl, rfl⟩))
          | fail)
        go_ret
        exact ⟨rfl, HBW.out⟩
      · have h5 : ¬ nt < vt := by omega
        go_wp2_with (first
          | (go_at_call 53; first | (with_reducible refine HF1.out.mono ?_; rintro e w9 ⟨rfl, rfl⟩) | (with_reducible refine HF2.out.mono ?_; rintro e w9 ⟨rfl, rfl⟩))
          | fail)
        go_ret
        exact ⟨rfl, HBW.out⟩
      · have h5 : ¬ nt < vt := by omega
        have h6 : ¬ vt < nt := by omega
        have h7 : (vt == nt) = true := by simpa using h3
        clear h3
        go_wp2_with (first
          | (go_at_call 53; first | (with_reducible refine HF1.out.mono ?_; rintro e w9 ⟨rfl, rfl⟩) | (with_reducible refine HF2.out.mono ?_; rintro e w9 ⟨rfl, rfl⟩))
          | fail)
        go_ret
        exact ⟨rfl, HBW.out⟩
    · subst hd
      rcases hr with ⟨h3, h4⟩ | h3
      · go_wp2_with (first
          | (go_at_call 53; first | (with_reducible refine HF1.out.mono ?_; rintro e w9 ⟨rfl, rfl⟩) | (with_reducible refine HF2.out.mono ?_; rintro e w9 ⟨rfl, rfl⟩))
          | fail)
        go_ret
        exact ⟨rfl, HBW.out⟩
      · have h5 : ¬ wt < nt := by omega
        have h7 : (wt == nt) = true := by simpa using h3
        clear h3
        go_wp2_with (first
          | (go_at_call 53; first | (with_reducible refine HF1.out.mono ?_; rintro e w9 ⟨rfl, rfl⟩) | (with_reducible refine HF2.out.mono ?_; rintro e w9 ⟨rfl, rfl⟩))
          | fail)
        go_ret
        exact ⟨rfl, HBW.out⟩
  have h2b : (wS != ns) = true := by simpa using h2
  clear h1 h2 hfr'
  go_wp2_with fail
  go_ret
  exact ⟨rfl, HBW.out⟩
end Go.Proofs.YtlehcaacfgocaaaGreat
namespace Go.Proofs.YtlehcaacfgocaaaGreat
set_option linter.unusedVariables false
open Go.RowKit
open Go.Lib (hid)
theorem dec_vl {nd : Int} {s : Sd} {m : Ms} {y : En} : s.xs.length ≤ (decideF nd s m y).1.xs.length ∧ ∀ a ∈ (decideF nd s m y).2, a.so = 1 → a.vl.length ≤ s.xs.length := by
  unfold decideF
  split
  · refine ⟨Nat.le_refl _, fun a ha _ => ?_⟩
    rw [List.mem_singleton] at ha; subst ha; simp [backA]
  · split
    · unfold refuseF
      rw [fresh_xs]
      refine ⟨Nat.le_refl _, fun a ha h1 => ?_⟩
      split at ha
      · rw [List.mem_singleton] at ha; subst ha; simp [backA] at h1
      · cases ha
    · split
      · exact ⟨Nat.le_refl _, fun a ha => by cases ha⟩
      · unfold agreeF putD
        refine ⟨by simp, fun a ha _ => ?_⟩
        rw [List.mem_singleton] at ha; subst ha
        show (moreL s.xs m).length ≤ _
        unfold moreL predL
        exact Nat.le_trans (minus_len _ _) (touch_len _ _ _)
theorem ans_vl {nd : Int} {s : Sd} {m : Ms} : s.xs.length ≤ (ansD nd s m).1.xs.length ∧ ∀ a ∈ (ansD nd s m).2, a.so = 1 → a.vl.length ≤ s.xs.length := by
  unfold ansD answerF
  split
  · refine ⟨Nat.le_refl _, fun a ha h1 => ?_⟩
    rw [List.mem_singleton] at ha; subst ha; simp [backA] at h1
  · split
    · refine ⟨Nat.le_refl _, fun a ha h1 => ?_⟩
      rw [List.mem_singleton] at ha; subst ha; simp [backA] at h1
    · exact dec_vl
theorem thru_vl {nd : Int} : ∀ {ws : List Ms} {s : Sd}, s.xs.length ≤ (thruF nd s ws).1.xs.length ∧ ∀ a ∈ (thruF nd s ws).2.2, a.so = 1 → a.vl.length ≤ (thruF nd s ws).1.xs.length
  | [], s => ⟨Nat.le_refl _, fun a ha => by cases ha⟩
  | m :: ws, s => by
    unfold thruF
    split
    · exact ⟨Nat.le_refl _, fun a ha => by cases ha⟩
    · obtain ⟨h1, h2⟩ := ans_vl (nd := nd) (s := s) (m := m)
      obtain ⟨k1, k2⟩ := thru_vl (nd := nd) (ws := ws) (s := (ansD nd s m).1)
      dsimp only
      refine ⟨by omega, fun a ha h => ?_⟩
      rcases List.mem_append.1 ha with ha | ha
      · have := h2 a ha h; omega
      · exact k2 a ha h
theorem handle_vl {nd : Int} {s : Sd} {ws : List Ms} {m : Ms} : ∀ a ∈ (handleF nd s ws m).2.2, a.so = 1 → a.vl.length ≤ (handleF nd s ws m).1.xs.length := by
  unfold handleF
  split
  · have key : ∀ a ∈ (answerT nd (readyS s m) ws m (lkE (readyS s m).xs m.m.c.i)).2.2, a.so = 1 → a.vl.length ≤ (answerT nd (readyS s m) ws m (lkE (readyS s m).xs m.m.c.i)).1.xs.length := by
      unfold answerT
      split
      · intro a ha h1
        rw [List.mem_singleton] at ha; subst ha; simp [backA] at h1
      · split
        · intro a ha h1
          rw [List.mem_singleton] at ha; subst ha; simp [backA] at h1
        · unfold takeF
          split
          · unfold proposeF
            obtain ⟨h1, h2⟩ := dec_vl (nd := nd) (s := putD (readyS s m) (propY m (lkE (readyS s m).xs m.m.c.i))) (m := m) (y := propY m (lkE (readyS s m).xs m.m.c.i))
            intro a ha h
            have := h2 a ha h
            dsimp only; omega
          · split
            · unfold prepareF
              intro a ha h1
              dsimp only at ha
              split at ha
              · rw [List.mem_singleton] at ha; subst ha; simp [backA] at h1
              · cases ha
            · split
              · unfold acceptF
                split
                · intro a ha; cases ha
                · intro a ha h1
                  rw [List.mem_singleton] at ha; subst ha; simp [backA] at h1
              · unfold settleF
                split
                · split
                  · exact thru_vl.2
                  · intro a ha; cases ha
                · exact thru_vl.2
    unfold overF
    split
    · intro a ha; cases ha
    · exact key
  · intro a ha; cases ha
theorem Tryz.infoSz : (Tryz.prog.info? 74).map (fun i => (i.zero, i.size, i.bytes)) = some (some (.agg (⟨z7, 0, zS⟩ : Sm).arr), 9, 88) := by kernel_rfl
theorem wpList_append_ss {w : World} {ops : Array Oper} {rest : List Oper} {o : Oper} {a : Act} {Q : Exit → Act → World → Prop} (hgd : o.guard = none) (s x : Operand) (ho : o.op = .call { callee := .builtin .append, args := #[s, x], argTypes := #[65, 65] })
    (B : Nat) (v : Value) (ps : List Sm) (hs : a.eval s = v) (hown : OwnG Sm.list 9 74 w B v ps) (v2 : Value) (qs : List Sm) (hx : a.eval x = v2) (h2 : SlG Sm.list 9 w v2 qs) (hn2 : qs = [] → v2 = .slice none 0 0 ∨ ∃ ad c, v2 = .slice (some ad) 0 c) (hlen : ps.length + qs.length ≤ 1000000) (hbase : B ≤ w.heap.size)
    (h : ∀ v' w', OwnG Sm.list 9 74 w' B v' (ps ++ qs) → w.grownBy w' v.ownBlock → wpList Tryz.prog ops Q rest (a.put o.dst v') w') : wpList Tryz.prog ops Q (o :: rest) a w := by
  obtain ⟨i0, hi, hz0, hz1, hz2⟩ := info_parts Tryz.infoSz
  obtain ⟨b, off, cap, a2, e, ha, hc, hl⟩ := h2
  have hcase : (v2 = .slice none 0 0 ∧ qs = []) ∨ ∃ ad, v2 = .slice (some ad) qs.length cap ∧ (0 < qs.length → ad = ⟨b, off, none⟩) := by
    rcases Nat.eq_zero_or_pos qs.length with h0 | h0
    · have hq : qs = [] := List.length_eq_zero_iff.1 h0
      rcases hn2 hq with h1 | ⟨ad, c, h1⟩
      · exact .inl ⟨h1, hq⟩
      · rw [e] at h1
        injection h1 with e1 e2 e3
        exact .inr ⟨ad, by rw [e, e1], fun h3 => by omega⟩
    · exact .inr ⟨⟨b, off, none⟩, by rw [e, ha h0], fun _ => rfl⟩
  rcases hcase with ⟨rfl, rfl⟩ | ⟨ad, rfl, had⟩
  · refine wpList_append_own_none hgd s x 65 ho B 74 i0 9 Tryz.underlying65 hi v ps.length (flatG Sm.list ps) hs hown hx ?_
    exact h v w (by rw [List.append_nil]; exact hown) (grownRefl _ _)
  · refine wpList_append_own _ hgd s x 65 ho B 74 i0 _ 9 88 Tryz.underlying65 hi hz0 hz1 hz2 rfl (by decide) v ps.length (flatG Sm.list ps) hs hown ad qs.length cap (flatG Sm.list qs) hx (flatG_len kSm qs) (fun j u hu => ?_) (flatG_all Sm.one' qs) (by unfold maxLen; omega) (by omega) hbase ?_
    · have hj := (List.getElem?_eq_some_iff.1 hu).1
      rw [flatG_len kSm] at hj
      have h0 : 0 < qs.length := by rcases Nat.eq_zero_or_pos qs.length with h0 | h0; rw [h0] at hj; omega; exact h0
      rw [had h0, addr_add']
      have hlt : j / 9 < qs.length := Nat.div_lt_of_lt_mul (by rw [Nat.mul_comm]; exact hj)
      have hat := hc (j / 9) qs[j / 9] (List.getElem?_eq_getElem hlt)
      have hfl : ∀ u', (Sm.list qs[j / 9])[j % 9]? = some u' → (flatG Sm.list qs)[j / 9 * 9 + j % 9]? = some u' := fun u' h' => flatG_at kSm qs _ _ (List.getElem?_eq_getElem hlt) _ _ h'
      have hm : j % 9 < (Sm.list qs[j / 9]).length := by rw [kSm]; exact Nat.mod_lt _ (by decide)
      have h1 := hfl _ (List.getElem?_eq_getElem hm)
      rw [show j / 9 * 9 + j % 9 = j by omega, hu] at h1
      have h2 := hat (j % 9) _ (List.getElem?_eq_getElem hm)
      rw [← Option.some.inj h1] at h2
      rw [show off + j / 9 * 9 + j % 9 = off + j by omega] at h2
      exact h2
    · intro v' w' ho' hg _
      refine h v' w' ?_ hg
      show World.ownsRow _ _ _ _ _ _ _
      rw [flatG_append, List.length_append]; exact ho'
theorem askF_some {ask : An → Option (List C7)} {zs : List En} : ∀ {es : List An} {l : List Sa} {j : Nat} {a : An}, SayOk ask zs l es → es[j]? = some a → (a.so = 1 → firstB (sayAll ask l (es.take j)) a.c.i a.vt = true → (ask a).isSome = true ∧ ∀ was ∈ sayAll ask l (es.take j), FairP zs was ⟨a.c, a.vt, (ask a).getD [] ++ a.vl⟩)
  | [], l, j, a, h, hj => by simp at hj
  | e :: es, l, 0, a, h, hj => by
    simp at hj; subst hj
    exact h.1
  | e :: es, l, j + 1, a, h, hj => by
    rw [List.getElem?_cons_succ] at hj
    have := askF_some (l := sayF ask l e) h.2 hj
    rw [List.take_succ_cons]
    exact this
theorem sayAll_next (ask : An → Option (List C7)) (l : List Sa) {es : List An} {j : Nat} {a : An} (h : es[j]? = some a) : sayAll ask l (es.take (j + 1)) = sayF ask (sayAll ask l (es.take j)) a := by
  rw [List.take_add_one, h, sayAll_app]; rfl
end Go.Proofs.YtlehcaacfgocaaaGreat
