import Derived.Test.YtogoibigabpkhaaGreatQMapM
import Derived.Test.YtogoibigabpkhaaGreatG22
/- The program's Put. -/
namespace Go.Proofs.YtogoibigabpkhaaGreat
set_option linter.unusedVariables false
open Go.RowKit
open Go.Lib (hid)

/-- The clock behind an entry that was put. -/
def seeE (c : Int) (e : Ev) : Int := seeI (seeI (seeI (seeI c e.hi) e.ft) e.xt) e.vt
set_option maxHeartbeats 4000000 in
set_option maxRecDepth 100000 in
theorem cPut {w : World} {x b b2 n : Nat} {nd c : Int} {xs : List En} {ids : List Int} {y : En} (h : Ix w x b b2 n nd c xs ids) (hn : n < maxLen) (hw : (Lit.int .i64 y.id).wf = true) (hy : y.at w) (hs : y.short 1024) {r : Int}
    (hr : r = if y.right = false then 1 else if hasE xs y.id = true ∧ ¬ (lookE xs y.id).c = y.e.c then 6 else 0) :
    Calls Tryz.prog 25 #[ptr x, .agg y.e.arr] w fun e w' => e = .returned (.int .i64 r) ∧ (if r = 0 then Ix w' x b b2 (n + 1) nd (seeE c y.e) (xs ++ [y]) (ids ++ [y.id]) else Ix w' x b b2 n nd c xs ids) ∧ Tch (TI x b b2) w w' := by
  have HX : Hid ((w.alloc (.cells y.e.arr 44)).heap[w.heap.size]? = some (.cells y.e.arr 44)) := hid (heap_alloc_new w _)
  have HW : Hid (Below w.heap.size w (w.alloc (.cells y.e.arr 44))) := hid ((Below.refl _ w).alloc (Nat.le_refl _) _)
  have HJ : Hid (Ix (w.alloc (.cells y.e.arr 44)) x b b2 n nd c xs ids) := hid (h.on HW.out)
  have HL : Hid (x < w.heap.size ∧ b < w.heap.size ∧ b2 < w.heap.size) := hid h.lt
  have HY := hid (hy.on HW.out)
  have HR := hid hr
  clear h hy hr
  go_enter Tryz.func25, Tryz.ntmps25
  go_wp2_with fail
  obtain ⟨W0, hW0⟩ : ∃ W0, W0 = w.alloc (.cells y.e.arr 44) := ⟨_, rfl⟩
  rw [← hW0] at HX HW HJ HY ⊢
  clear hW0
  have hM := cMade HJ.out
  have hRi := cRightE HY.out.1 HY.out.2.1 HY.out.2.2 hs.1 hs.2.1 hs.2.2
  obtain ⟨rt, hrt⟩ : ∃ rt, rt = y.right := ⟨_, rfl⟩
  rw [show rightE y.e y.f y.a y.v = rt from hrt.symm] at hRi
  rw [← hrt] at HR
  clear hrt
  rcases rt with _ | _
  · obtain rfl : r = 1 := by have := HR.out; rw [if_pos rfl] at this; exact this
    clear HR
    go_wp2_with (first
      | (go_at_call 41; refine hM.mono ?_; rintro y w' ⟨rfl, rfl⟩)
      | ((with_reducible refine loadGC (x := ?cx2) (b := w.heap.size) (T := 44) y.e ?cg2 ?co2 ?cxx2 ?cc2 ?_); (case cg2 => rfl); (case co2 => rfl); (case cxx2 => rfl); (case cc2 => exact HX.out))
      | (go_at_call 68; refine hRi.mono ?_; rintro q w1 ⟨rfl, hB1⟩; have HB1 := hid hB1; clear hB1)
      | fail)
    go_ret
    exact ⟨rfl, HJ.out.on HB1.out, Tch.ofBelow (HW.out.trans (HB1.out.mono HW.out.size))⟩
  · go_wp2_with (first
      | (go_at_call 41; refine hM.mono ?_; rintro y w' ⟨rfl, rfl⟩)
      | ((with_reducible refine loadGC (x := ?cx2) (b := w.heap.size) (T := 44) y.e ?cg2 ?co2 ?cxx2 ?cc2 ?_); (case cg2 => rfl); (case co2 => rfl); (case cxx2 => rfl); (case cc2 => exact HX.out))
      | (go_at_call 68; refine hRi.mono ?_; rintro q w1 ⟨rfl, hB1⟩; have HB1 := hid hB1; clear hB1)
      | fail)
    obtain ⟨e1, he1⟩ : ∃ e, e = lookE xs y.id := ⟨_, rfl⟩
    obtain ⟨d1, hd1⟩ : ∃ d, d = hasE xs y.id := ⟨_, rfl⟩
    have HJ1 := hid (HJ.out.on HB1.out)
    have HF : Hid (∀ W, Below w1.heap.size w1 W → W.cell? ⟨x, 2, none⟩ = some (Value.map (some b)) ∧ W.cell? ⟨w.heap.size, 0, none⟩ = some (.int .i64 y.e.c.i) ∧ Sem.run Tryz.prog (Instr.lookup 69 (.map (some b)) (.int .i64 y.e.c.i) true) W = .ok (.tuple #[.agg e1.arr, .bool d1]) W) := hid fun W hW => ⟨(HJ1.out.on hW).cells.2.2.1, (cellAt' (heapB HX.out (HB1.out.trans (hW.mono HB1.out.size)) (Array.getElem?_eq_some_iff.1 HX.out).1) 0).trans rfl, by rw [he1, hd1]; exact run_look (HJ1.out.on hW).mp hw⟩
    rw [← he1, ← hd1] at HR
    have HK := hid (heapB HX.out HB1.out (Array.getElem?_eq_some_iff.1 HX.out).1)
    have HWs := hid (show w.heap.size < w1.heap.size from (Array.getElem?_eq_some_iff.1 HK.out).1)
    have HT1 := hid (HW.out.trans (HB1.out.mono HW.out.size))
    clear he1 hd1 hM hRi HX HJ
    refine rh_start (S := fun W => Below w1.heap.size w1 W) (n := 14) (listed := #[false, false, false, false, false, false, false, false, false, false, false, false, false, false]) (by kernel_rfl) rfl rfl ?_
    have HS0 : Hid (Below w1.heap.size w1 w1.drew) := hid (belowDrew (Below.refl _ w1))
    generalize World.drew w1 = wd at HS0 ⊢
    refine rh_takeS (i := 0) (o := ?o1) (v := ?v1) (listed' := ?l1) (a' := ?a1) ?hi1 (by kernel_rfl) (by kernel_rfl) (by kernel_rfl) ?hq1 ?hl1 ?hw1 ?hv1 ?ha1 HS0.out ?hh1
    case hi1 => (simp only [List.getElem?_toArray, List.getElem?_cons_zero]; try rfl)
    case hq1 => exact fun _ _ _ h => h
    case hl1 => (simp only [List.setIfInBounds_toArray, List.set_cons_zero]; try rfl)
    case hw1 => rfl
    case hv1 =>
      intro W hW
      obtain ⟨k2, k4, hl⟩ := HF.out W hW
      go_simp
      try with_reducible rfl
    case ha1 => (simp only [Act.put, List.setIfInBounds_toArray, List.set_cons_succ, List.set_cons_zero]; try rfl)
    refine rh_takeS (i := 1) (o := ?o2) (v := ?v2) (listed' := ?l2) (a' := ?a2) ?hi2 (by kernel_rfl) (by kernel_rfl) (by kernel_rfl) ?hq2 ?hl2 ?hw2 ?hv2 ?ha2 HS0.out ?hh2
    case hi2 => (simp only [List.getElem?_toArray, List.getElem?_cons_succ, List.getElem?_cons_zero]; try rfl)
    case hq2 => exact fun _ _ _ h => h
    case hl2 => (simp only [List.setIfInBounds_toArray, List.set_cons_succ, List.set_cons_zero]; try rfl)
    case hw2 => rfl
    case hv2 =>
      intro W hW
      obtain ⟨k2, k4, hl⟩ := HF.out W hW
      go_simp
      try with_reducible rfl
    case ha2 => (simp only [Act.put, List.setIfInBounds_toArray, List.set_cons_succ, List.set_cons_zero]; try rfl)
    refine rh_takeS (i := 2) (o := ?o3) (v := ?v3) (listed' := ?l3) (a' := ?a3) ?hi3 (by kernel_rfl) (by kernel_rfl) (by kernel_rfl) ?hq3 ?hl3 ?hw3 ?hv3 ?ha3 HS0.out ?hh3
    case hi3 => (simp only [List.getElem?_toArray, List.getElem?_cons_succ, List.getElem?_cons_zero]; try rfl)
    case hq3 => exact fun _ _ _ h => h
    case hl3 => (simp only [List.setIfInBounds_toArray, List.set_cons_succ, List.set_cons_zero]; try rfl)
    case hw3 => rfl
    case hv3 =>
      intro W hW
      obtain ⟨k2, k4, hl⟩ := HF.out W hW
      go_simp
      try with_reducible rfl
    case ha3 => (simp only [Act.put, List.setIfInBounds_toArray, List.set_cons_succ, List.set_cons_zero]; try rfl)
    refine rh_takeS (i := 3) (o := ?o4) (v := ?v4) (listed' := ?l4) (a' := ?a4) ?hi4 (by kernel_rfl) (by kernel_rfl) (by kernel_rfl) ?hq4 ?hl4 ?hw4 ?hv4 ?ha4 HS0.out ?hh4
    case hi4 => (simp only [List.getElem?_toArray, List.getElem?_cons_succ, List.getElem?_cons_zero]; try rfl)
    case hq4 => exact fun _ _ _ h => h
    case hl4 => (simp only [List.setIfInBounds_toArray, List.set_cons_succ, List.set_cons_zero]; try rfl)
    case hw4 => rfl
    case hv4 =>
      intro W hW
      obtain ⟨k2, k4, hl⟩ := HF.out W hW
      go_simp
      try with_reducible rfl
    case ha4 => (simp only [Act.put, List.setIfInBounds_toArray, List.set_cons_succ, List.set_cons_zero]; try rfl)
    refine rh_takeS (i := 4) (o := ?o5) (v := ?v5) (listed' := ?l5) (a' := ?a5) ?hi5 (by kernel_rfl) (by kernel_rfl) (by kernel_rfl) ?hq5 ?hl5 ?hw5 ?hv5 ?ha5 HS0.out ?hh5
    case hi5 => (simp only [List.getElem?_toArray, List.getElem?_cons_succ, List.getElem?_cons_zero]; try rfl)
    case hq5 => exact fun _ _ _ h => h
    case hl5 => (simp only [List.setIfInBounds_toArray, List.set_cons_succ, List.set_cons_zero]; try rfl)
    case hw5 => rfl
    case hv5 =>
      intro W hW
      obtain ⟨k2, k4, hl⟩ := HF.out W hW
      go_simp
      try with_reducible rfl
    case ha5 => (simp only [Act.put, List.setIfInBounds_toArray, List.set_cons_succ, List.set_cons_zero]; try rfl)
    refine rh_takeS (i := 5) (o := ?o6) (v := ?v6) (listed' := ?l6) (a' := ?a6) ?hi6 (by kernel_rfl) (by kernel_rfl) (by kernel_rfl) ?hq6 ?hl6 ?hw6 ?hv6 ?ha6 HS0.out ?hh6
    case hi6 => (simp only [List.getElem?_toArray, List.getElem?_cons_succ, List.getElem?_cons_zero]; try rfl)
    case hq6 => exact fun _ _ _ h => h
    case hl6 => (simp only [List.setIfInBounds_toArray, List.set_cons_succ, List.set_cons_zero]; try rfl)
    case hw6 => rfl
    case hv6 =>
      intro W hW
      obtain ⟨k2, k4, hl⟩ := HF.out W hW
      go_simp
      try with_reducible rfl
    case ha6 => (simp only [Act.put, List.setIfInBounds_toArray, List.set_cons_succ, List.set_cons_zero]; try rfl)
    refine rh_takeS (i := 6) (o := ?o7) (v := ?v7) (listed' := ?l7) (a' := ?a7) ?hi7 (by kernel_rfl) (by kernel_rfl) (by kernel_rfl) ?hq7 ?hl7 ?hw7 ?hv7 ?ha7 HS0.out ?hh7
    case hi7 => (simp only [List.getElem?_toArray, List.getElem?_cons_succ, List.getElem?_cons_zero]; try rfl)
    case hq7 => exact fun _ _ _ h => h
    case hl7 => (simp only [List.setIfInBounds_toArray, List.set_cons_succ, List.set_cons_zero]; try rfl)
    case hw7 => rfl
    case hv7 =>
      intro W hW
      obtain ⟨k2, k4, hl⟩ := HF.out W hW
      go_simp
      try with_reducible rfl
    case ha7 => (simp only [Act.put, List.setIfInBounds_toArray, List.set_cons_succ, List.set_cons_zero]; try rfl)
    refine rh_takeS (i := 7) (o := ?o8) (v := ?v8) (listed' := ?l8) (a' := ?a8) ?hi8 (by kernel_rfl) (by kernel_rfl) (by kernel_rfl) ?hq8 ?hl8 ?hw8 ?hv8 ?ha8 HS0.out ?hh8
    case hi8 => (simp only [List.getElem?_toArray, List.getElem?_cons_succ, List.getElem?_cons_zero]; try rfl)
    case hq8 => exact fun _ _ _ h => h
    case hl8 => (simp only [List.setIfInBounds_toArray, List.set_cons_succ, List.set_cons_zero]; try rfl)
    case hw8 => rfl
    case hv8 =>
      intro W hW
      obtain ⟨k2, k4, hl⟩ := HF.out W hW
      go_simp
      try with_reducible rfl
    case ha8 => (simp only [Act.put, List.setIfInBounds_toArray, List.set_cons_succ, List.set_cons_zero]; try rfl)
    refine rh_takeS (i := 8) (o := ?o9) (v := ?v9) (listed' := ?l9) (a' := ?a9) ?hi9 (by kernel_rfl) (by kernel_rfl) (by kernel_rfl) ?hq9 ?hl9 ?hw9 ?hv9 ?ha9 HS0.out ?hh9
    case hi9 => (simp only [List.getElem?_toArray, List.getElem?_cons_succ, List.getElem?_cons_zero]; try rfl)
    case hq9 => exact fun _ _ _ h => h
    case hl9 => (simp only [List.setIfInBounds_toArray, List.set_cons_succ, List.set_cons_zero]; try rfl)
    case hw9 => rfl
    case hv9 =>
      intro W hW
      obtain ⟨k2, k4, hl⟩ := HF.out W hW
      go_simp
      try with_reducible rfl
    case ha9 => (simp only [Act.put, List.setIfInBounds_toArray, List.set_cons_succ, List.set_cons_zero]; try rfl)
    refine rh_takeS (i := 9) (o := ?o10) (v := ?v10) (listed' := ?l10) (a' := ?a10) ?hi10 (by kernel_rfl) (by kernel_rfl) (by kernel_rfl) ?hq10 ?hl10 ?hw10 ?hv10 ?ha10 HS0.out ?hh10
    case hi10 => (simp only [List.getElem?_toArray, List.getElem?_cons_succ, List.getElem?_cons_zero]; try rfl)
    case hq10 => exact fun _ _ _ h => h
    case hl10 => (simp only [List.setIfInBounds_toArray, List.set_cons_succ, List.set_cons_zero]; try rfl)
    case hw10 => rfl
    case hv10 =>
      intro W hW
      obtain ⟨k2, k4, hl⟩ := HF.out W hW
      go_simp
      try with_reducible rfl
    case ha10 => (simp only [Act.put, List.setIfInBounds_toArray, List.set_cons_succ, List.set_cons_zero]; try rfl)
    refine rh_takeS (i := 10) (o := ?o11) (v := ?v11) (listed' := ?l11) (a' := ?a11) ?hi11 (by kernel_rfl) (by kernel_rfl) (by kernel_rfl) ?hq11 ?hl11 ?hw11 ?hv11 ?ha11 HS0.out ?hh11
    case hi11 => (simp only [List.getElem?_toArray, List.getElem?_cons_succ, List.getElem?_cons_zero]; try rfl)
    case hq11 => exact fun _ _ _ h => h
    case hl11 => (simp only [List.setIfInBounds_toArray, List.set_cons_succ, List.set_cons_zero]; try rfl)
    case hw11 => rfl
    case hv11 =>
      intro W hW
      obtain ⟨k2, k4, hl⟩ := HF.out W hW
      go_simp
      try with_reducible rfl
    case ha11 => (simp only [Act.put, List.setIfInBounds_toArray, List.set_cons_succ, List.set_cons_zero]; try rfl)
    refine wpAnyH_ready (rs := [11]) (by kernel_rfl) (by simp) ?_
    refine rh_cons (i := 11) (o := ?o12) (listed' := ?l12) ?hi12 ?hl12 ?hg12 ?hh12 ?hs12
    case hi12 => (simp only [List.getElem?_toArray, List.getElem?_cons_succ, List.getElem?_cons_zero]; try rfl)
    case hl12 => (simp only [List.setIfInBounds_toArray, List.set_cons_succ, List.set_cons_zero]; try rfl)
    case hg12 => rfl
    case hs12 => exact AllReadyH.nil
    intro K hK
    go_simp
    have HS1 : Hid (Below w1.heap.size w1 (wd.alloc zeroEc)) := hid (HS0.out.alloc HS0.out.size _)
    refine hK.out _ _ HS1.out ?_
    clear hK K
    refine wpAnyH_ready (rs := [12]) (by kernel_rfl) (by simp) ?_
    refine rh_storeC (i := 12) (o := ?o13) (listed' := ?l13) (x := ?x13) (y := ?y13) (b := wd.heap.size) (T := 44) e1 ?hi13 ?hl13 ?hg13 ?ho13 ?hx13 ?hy13 ?hd13 ?hc13 ?hh13 ?hs13
    case hi13 => (simp only [List.getElem?_toArray, List.getElem?_cons_succ, List.getElem?_cons_zero]; try rfl)
    case hl13 => (simp only [List.setIfInBounds_toArray, List.set_cons_succ, List.set_cons_zero]; try rfl)
    case hg13 => rfl
    case ho13 => rfl
    case hx13 => rfl
    case hy13 => rfl
    case hd13 => rfl
    case hc13 => exact zeroRoom wd
    case hs13 => exact AllReadyH.nil
    intro W2 hO2 hU2
    have HO2 := hid hO2
    have HS2 := hid (HS1.out.trans (hU2.below _ (HS0.out.size)))
    refine ⟨HS2.out, ?_⟩
    clear hO2 hU2
    refine rh_takeS (i := 13) (o := ?o14) (v := ?v14) (listed' := ?l14) (a' := ?a14) ?hi14 (by kernel_rfl) (by kernel_rfl) (by kernel_rfl) ?hq14 ?hl14 ?hw14 ?hv14 ?ha14 HS2.out ?hh14
    case hi14 => (simp only [List.getElem?_toArray, List.getElem?_cons_succ, List.getElem?_cons_zero]; try rfl)
    case hq14 => exact fun _ _ _ h => h
    case hl14 => (simp only [List.setIfInBounds_toArray, List.set_cons_succ, List.set_cons_zero]; try rfl)
    case hw14 => rfl
    case hv14 =>
      intro W hW
      obtain ⟨k2, k4, hl⟩ := HF.out W hW
      go_simp
      try with_reducible rfl
    case ha14 => (simp only [Act.put, List.setIfInBounds_toArray, List.set_cons_succ, List.set_cons_zero]; try rfl)
    refine wpAnyH_done (by kernel_rfl) ?_ _
    have HJ2 := hid (HJ1.out.on HS2.out)
    have HT2 := hid (HT1.out.trans (HS2.out.mono HT1.out.size))
    have HX2 : Hid (Ob W2 w.heap.size 44 y.e) := hid (heapB HK.out HS2.out (Array.getElem?_eq_some_iff.1 HK.out).1)
    have HNE : Hid (¬ TI x b b2 w.heap.size) := hid (by rintro (e | e | e) <;> (have := HL.out; omega))
    clear HS0 HS1 HF HJ1 HK HWs HT1 HW HB1 HY
    rcases d1 with _ | _
    · obtain rfl : r = 0 := by have := HR.out; simpa using this
      clear HR
      go_wp2_with (first
        | ((with_reducible refine loadC (x := ?cx5) (b := w.heap.size) (T := 44) y.e ?cg5 ?co5 ?cxx5 ?cc5 ?_); (case cg5 => rfl); (case co5 => rfl); (case cxx5 => rfl); (case cc5 => exact HX2.out))
        | fail)
      go_at_call 67
      refine (cKeep HJ2.out hn hw).mono ?_
      rintro q w3 ⟨rfl, hJ3, hT3⟩
      have HJ3 := hid hJ3
      have HX3 : Hid (Ob w3 w.heap.size 44 y.e) := hid (hT3.ob HX2.out HNE.out)
      have HZ3 := hid ((Tch.ofBelow (S := TI x b b2) HT2.out).trans hT3)
      clear hJ3 hT3
      have k9 := HX3.out.cell (j := 9) (v := .int .i64 y.e.hi) rfl
      go_wp2_with fail
      go_at_call 16
      refine (cSee HJ3.out y.e.hi).mono ?_
      rintro q w4 ⟨rfl, hJ4, hT4⟩
      have HJ4 := hid hJ4
      have HX4 : Hid (Ob w4 w.heap.size 44 y.e) := hid (hT4.ob HX3.out (fun e => HNE.out (.inl e)))
      have HZ4 := hid (HZ3.out.trans (hT4.mono fun k e => .inl e))
      clear hJ4 hT4 HJ3 HX3 HZ3 k9
      have k10 := HX4.out.cell (j := 10) (v := .int .i64 y.e.ft) rfl
      go_wp2_with fail
      go_at_call 16
      refine (cSee HJ4.out y.e.ft).mono ?_
      rintro q w5 ⟨rfl, hJ5, hT5⟩
      have HJ5 := hid hJ5
      have HX5 : Hid (Ob w5 w.heap.size 44 y.e) := hid (hT5.ob HX4.out (fun e => HNE.out (.inl e)))
      have HZ5 := hid (HZ4.out.trans (hT5.mono fun k e => .inl e))
      clear hJ5 hT5 HJ4 HX4 HZ4 k10
      have k13 := HX5.out.cell (j := 13) (v := .int .i64 y.e.xt) rfl
      go_wp2_with fail
      go_at_call 16
      refine (cSee HJ5.out y.e.xt).mono ?_
      rintro q w6 ⟨rfl, hJ6, hT6⟩
      have HJ6 := hid hJ6
      have HX6 : Hid (Ob w6 w.heap.size 44 y.e) := hid (hT6.ob HX5.out (fun e => HNE.out (.inl e)))
      have HZ6 := hid (HZ5.out.trans (hT6.mono fun k e => .inl e))
      clear hJ6 hT6 HJ5 HX5 HZ5 k13
      have k17 := HX6.out.cell (j := 17) (v := .int .i64 y.e.vt) rfl
      go_wp2_with fail
      go_at_call 16
      refine (cSee HJ6.out y.e.vt).mono ?_
      rintro q w7 ⟨rfl, hJ7, hT7⟩
      have HJ7 := hid hJ7
      have HX7 : Hid (Ob w7 w.heap.size 44 y.e) := hid (hT7.ob HX6.out (fun e => HNE.out (.inl e)))
      have HZ7 := hid (HZ6.out.trans (hT7.mono fun k e => .inl e))
      clear hJ7 hT7 HJ6 HX6 HZ6 k17
      go_wp2_with fail
      go_ret
      exact ⟨rfl, HJ7.out, HZ7.out⟩
    · rcases hsame : e1.c.same y.e.c with _ | _
      · obtain rfl : r = 6 := by have := HR.out; rw [if_neg (by simp), if_pos ⟨rfl, fun e => by rw [C7.same_iff.2 e] at hsame; cases hsame⟩] at this; exact this
        clear HR
        have u0 := HO2.out.cell (j := 0) (v := .int .i64 e1.c.i) rfl
        have u1 := HO2.out.cell (j := 1) (v := .int .i64 e1.c.k) rfl
        have u2 := HO2.out.cell (j := 2) (v := .int .i64 e1.c.s) rfl
        have u3 := HO2.out.cell (j := 3) (v := .int .i64 e1.c.t) rfl
        have u4 := HO2.out.cell (j := 4) (v := .int .i64 e1.c.d) rfl
        have u5 := HO2.out.cell (j := 5) (v := .int .i64 e1.c.p) rfl
        have u6 := HO2.out.cell (j := 6) (v := .int .i64 e1.c.q) rfl
        have v0 := HX2.out.cell (j := 0) (v := .int .i64 y.e.c.i) rfl
        have v1 := HX2.out.cell (j := 1) (v := .int .i64 y.e.c.k) rfl
        have v2 := HX2.out.cell (j := 2) (v := .int .i64 y.e.c.s) rfl
        have v3 := HX2.out.cell (j := 3) (v := .int .i64 y.e.c.t) rfl
        have v4 := HX2.out.cell (j := 4) (v := .int .i64 y.e.c.d) rfl
        have v5 := HX2.out.cell (j := 5) (v := .int .i64 y.e.c.p) rfl
        have v6 := HX2.out.cell (j := 6) (v := .int .i64 y.e.c.q) rfl
        have q1 := fun W => neqC hsame W
        have q2 := fun W => guardC .neq (.tmp 29) (.tmp 31) e1.c y.e.c W
        clear hsame
        go_wp2_with fail
        go_ret
        exact ⟨rfl, HJ2.out, Tch.ofBelow HT2.out⟩
      · obtain rfl : r = 0 := by have := HR.out; rw [if_neg (by simp), if_neg (fun h => h.2 (C7.same_iff.1 hsame))] at this; exact this
        clear HR
        have u0 := HO2.out.cell (j := 0) (v := .int .i64 e1.c.i) rfl
        have u1 := HO2.out.cell (j := 1) (v := .int .i64 e1.c.k) rfl
        have u2 := HO2.out.cell (j := 2) (v := .int .i64 e1.c.s) rfl
        have u3 := HO2.out.cell (j := 3) (v := .int .i64 e1.c.t) rfl
        have u4 := HO2.out.cell (j := 4) (v := .int .i64 e1.c.d) rfl
        have u5 := HO2.out.cell (j := 5) (v := .int .i64 e1.c.p) rfl
        have u6 := HO2.out.cell (j := 6) (v := .int .i64 e1.c.q) rfl
        have v0 := HX2.out.cell (j := 0) (v := .int .i64 y.e.c.i) rfl
        have v1 := HX2.out.cell (j := 1) (v := .int .i64 y.e.c.k) rfl
        have v2 := HX2.out.cell (j := 2) (v := .int .i64 y.e.c.s) rfl
        have v3 := HX2.out.cell (j := 3) (v := .int .i64 y.e.c.t) rfl
        have v4 := HX2.out.cell (j := 4) (v := .int .i64 y.e.c.d) rfl
        have v5 := HX2.out.cell (j := 5) (v := .int .i64 y.e.c.p) rfl
        have v6 := HX2.out.cell (j := 6) (v := .int .i64 y.e.c.q) rfl
        have q1 := fun W => neqC hsame W
        have q2 := fun W => guardC .neq (.tmp 29) (.tmp 31) e1.c y.e.c W
        clear hsame
        go_wp2_with (first
          | ((with_reducible refine loadC (x := ?cx5) (b := w.heap.size) (T := 44) y.e ?cg5 ?co5 ?cxx5 ?cc5 ?_); (case cg5 => rfl); (case co5 => rfl); (case cxx5 => rfl); (case cc5 => exact HX2.out))
          | fail)
        go_at_call 67
        refine (cKeep HJ2.out hn hw).mono ?_
        rintro q w3 ⟨rfl, hJ3, hT3⟩
        have HJ3 := hid hJ3
        have HX3 : Hid (Ob w3 w.heap.size 44 y.e) := hid (hT3.ob HX2.out HNE.out)
        have HZ3 := hid ((Tch.ofBelow (S := TI x b b2) HT2.out).trans hT3)
        clear hJ3 hT3
        have k9 := HX3.out.cell (j := 9) (v := .int .i64 y.e.hi) rfl
        go_wp2_with fail
        go_at_call 16
        refine (cSee HJ3.out y.e.hi).mono ?_
        rintro q w4 ⟨rfl, hJ4, hT4⟩
        have HJ4 := hid hJ4
        have HX4 : Hid (Ob w4 w.heap.size 44 y.e) := hid (hT4.ob HX3.out (fun e => HNE.out (.inl e)))
        have HZ4 := hid (HZ3.out.trans (hT4.mono fun k e => .inl e))
        clear hJ4 hT4 HJ3 HX3 HZ3 k9
        have k10 := HX4.out.cell (j := 10) (v := .int .i64 y.e.ft) rfl
        go_wp2_with fail
        go_at_call 16
        refine (cSee HJ4.out y.e.ft).mono ?_
        rintro q w5 ⟨rfl, hJ5, hT5⟩
        have HJ5 := hid hJ5
        have HX5 : Hid (Ob w5 w.heap.size 44 y.e) := hid (hT5.ob HX4.out (fun e => HNE.out (.inl e)))
        have HZ5 := hid (HZ4.out.trans (hT5.mono fun k e => .inl e))
        clear hJ5 hT5 HJ4 HX4 HZ4 k10
        have k13 := HX5.out.cell (j := 13) (v := .int .i64 y.e.xt) rfl
        go_wp2_with fail
        go_at_call 16
        refine (cSee HJ5.out y.e.xt).mono ?_
        rintro q w6 ⟨rfl, hJ6, hT6⟩
        have HJ6 := hid hJ6
        have HX6 : Hid (Ob w6 w.heap.size 44 y.e) := hid (hT6.ob HX5.out (fun e => HNE.out (.inl e)))
        have HZ6 := hid (HZ5.out.trans (hT6.mono fun k e => .inl e))
        clear hJ6 hT6 HJ5 HX5 HZ5 k13
        have k17 := HX6.out.cell (j := 17) (v := .int .i64 y.e.vt) rfl
        go_wp2_with fail
        go_at_call 16
        refine (cSee HJ6.out y.e.vt).mono ?_
        rintro q w7 ⟨rfl, hJ7, hT7⟩
        have HJ7 := hid hJ7
        have HX7 : Hid (Ob w7 w.heap.size 44 y.e) := hid (hT7.ob HX6.out (fun e => HNE.out (.inl e)))
        have HZ7 := hid (HZ6.out.trans (hT7.mono fun k e => .inl e))
        clear hJ7 hT7 HJ6 HX6 HZ6 k17
        go_wp2_with fail
        go_ret
        exact ⟨rfl, HJ7.out, HZ7.out⟩
theorem cPut_nil (y : Ev) (w : World) : Calls Tryz.prog 25 #[.pointer none, .agg y.arr] w fun e w' => e = .returned (.int .i64 1) ∧ Below w.heap.size w w' := by
  have HW : Hid (Below w.heap.size w (w.alloc (.cells y.arr 44))) := hid ((Below.refl _ w).alloc (Nat.le_refl _) _)
  go_enter Tryz.func25, Tryz.ntmps25
  go_wp2_with fail
  obtain ⟨W0, hW0⟩ : ∃ W0, W0 = w.alloc (.cells y.arr 44) := ⟨_, rfl⟩
  rw [← hW0] at HW ⊢
  clear hW0
  go_wp2_with (first
    | (go_at_call 41; refine (cMade_nil W0).mono ?_; rintro y w' ⟨rfl, rfl⟩)
    | fail)
  go_ret
  exact ⟨rfl, HW.out⟩
end Go.Proofs.YtogoibigabpkhaaGreat
