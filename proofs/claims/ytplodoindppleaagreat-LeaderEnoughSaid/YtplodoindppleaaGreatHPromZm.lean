import Derived.Test.YtplodoindppleaaGreatG19
namespace Go.Proofs.YtplodoindppleaaGreat
set_option linter.unusedVariables false
open Go.RowKit
open Go.Lib (hid)
abbrev zeroHd : Obj := .cells #[.bool false, .bool false, .bool false, .bool false, .bool false, .bool false, .bool false, .bool false, .bool false] 107
def Heard (w : World) (q : Nat) (l : List Ms) : Prop := ∃ C : Array Value, w.heap[q]? = some (.cells C 107 (0, 0)) ∧ C.size = 9 ∧ ∀ i : Nat, i < 9 → C[i]? = some (.bool (l.any fun x => decide (x.m.fr = (i : Int))))
theorem Heard.start (w : World) : Heard (w.alloc zeroHd) w.heap.size [] := ⟨_, heap_alloc_new w _, rfl, fun i hi => by
 rcases (by omega : i = 0 ∨ i = 1 ∨ i = 2 ∨ i = 3 ∨ i = 4 ∨ i = 5 ∨ i = 6 ∨ i = 7 ∨ i = 8) with rfl | rfl | rfl | rfl | rfl | rfl | rfl | rfl | rfl <;> rfl⟩
theorem Heard.lt {w : World} {q : Nat} {l : List Ms} (h : Heard w q l) : q < w.heap.size := by
 obtain ⟨C, h1, _⟩ := h
 exact (Array.getElem?_eq_some_iff.1 h1).1
theorem Heard.on {w w' : World} {q : Nat} {l : List Ms} (h : Heard w q l) (hb : Below w.heap.size w w') : Heard w' q l := by
 have := h.lt
 obtain ⟨C, h1, h2⟩ := h
 exact ⟨C, heapB h1 hb this, h2⟩
theorem Heard.cell {w : World} {q : Nat} {l : List Ms} (h : Heard w q l) {i : Nat} (hi : i < 9) : w.cell? ⟨q, i, none⟩ = some (.bool (l.any fun x => decide (x.m.fr = (i : Int)))) ∧ w.frozen? ⟨q, i, none⟩ = false := by
 obtain ⟨C, h1, h2, h3⟩ := h
 exact ⟨(cellAt' h1 i).trans (h3 i hi), frozenAt h1 i⟩
theorem Heard.set {w : World} {q : Nat} {l : List Ms} (h : Heard w q l) {i : Nat} (hi : i < 9) {y : Ms} (hy : y.m.fr = (i : Int)) : Heard (w.setCell ⟨q, i, none⟩ (.bool true)) q (l ++ [y]) := by
 obtain ⟨C, h1, h2, h3⟩ := h
 refine ⟨_, setAt (j := i) (x := .bool true) h1, by simpa using h2, fun j hj => ?_⟩
 rw [Array.getElem?_setIfInBounds]
 by_cases e : i = j
 · subst e
   rw [if_pos rfl, if_pos (by omega)]
   simp [hy]
 · rw [if_neg e, h3 j hj]
   have : ¬ ((i : Int) = (j : Int)) := by omega
   simp [hy, this]
theorem okM_false {n : Int} {c : C7} {l : List Ms} {m : Ms} (h : ¬ (mayB m = true ∧ m.m.c.same c = true ∧ m.m.fr < n ∧ (l.any fun x => decide (x.m.fr = m.m.fr)) = false)) : okM n c l m = false := by
 rcases e : okM n c l m with _ | _
 · rfl
 · exfalso
   apply h
   unfold okM at e
   simp only [Bool.and_eq_true, decide_eq_true_eq] at e
   refine ⟨e.1, e.2.1, e.2.2.1, ?_⟩
   rw [List.any_eq_false]
   intro x hx
   have := (List.all_eq_true.1 e.2.2.2) x hx
   simpa using this
theorem okM_true {n : Int} {c : C7} {l : List Ms} {m : Ms} (h1 : mayB m = true) (h2 : m.m.c.same c = true) (h3 : m.m.fr < n) (h4 : (l.any fun x => decide (x.m.fr = m.m.fr)) = false) : okM n c l m = true := by
 unfold okM
 rw [h1, h2, decide_eq_true h3, Bool.true_and, Bool.true_and, Bool.true_and, List.all_eq_true]
 intro x hx
 rw [List.any_eq_false] at h4
 have := h4 x hx
 simpa using this
theorem may_right {m : Ms} (h : mayB m = true) : rightM m = true := by
 unfold mayB at h; simp only [Bool.and_eq_true] at h; exact h.2
theorem may_from {m : Ms} (h : mayB m = true) : ∃ i : Nat, m.m.fr = (i : Int) ∧ i < 9 := by
 have := (right_own (may_right h)).2.1
 unfold inB at this
 simp at this
 exact ⟨m.m.fr.toNat, by omega, by omega⟩
set_option maxHeartbeats 16000000 in
set_option maxRecDepth 100000 in
theorem cPromises {v : Value} {ls : List Ms} {w : World} (n : Int) (h : SlM w v (mgs ls)) (hA : ∀ m ∈ ls, m.at w) (hS : ∀ m ∈ ls, m.short 1024) (hl : ls.length ≤ 1000) : Calls Tryz.prog 98 #[.int .i64 n, v] w fun e w' => e = .returned (.bool (promB n ls)) ∧ Below w.heap.size w w' := by
 have HSL0 := hid h
 have HSH := hid hS
 clear hS
 have HLL := hid hl
 obtain ⟨b, o, cap, a, rfl, ha, hc, hb⟩ := h
 have hlm : (mgs ls).length = ls.length := by unfold mgs; rw [List.length_map]
 rw [hlm] at ha hb ⊢
 have HA := hid hA
 have HCC := hid hc
 obtain ⟨m, hm⟩ : ∃ m, m = ls.length := ⟨_, rfl⟩
 rw [← hm] at ha hb hl ⊢
 have HN := hid hm
 clear hm hA hc hlm
 have HSL : Hid (SlM w (.slice a m cap) (mgs ls)) := hid (by have e : (mgs ls).length = m := (by unfold mgs; rw [List.length_map]; exact HN.out.symm); have hs := HSL0.out; rw [e] at hs; exact hs)
 clear HSL0
 have hR := fun W => sRight_any n W
 have hC := fun W => sClassic_any n W
 obtain ⟨rb, hrb⟩ : ∃ z, z = rightB n := ⟨_, rfl⟩
 obtain ⟨cl, hcl⟩ : ∃ z, z = clI n := ⟨_, rfl⟩
 rw [← hrb] at hR
 rw [← hcl] at hC
 have HRB := hid hrb
 have HCL := hid hcl
 have hcl9 : rb = true → cl ≤ 5 ∧ n ≤ 9 := fun e => by rw [e] at hrb; unfold rightB at hrb; have := of_decide_eq_true hrb.symm; rw [hcl]; unfold clI; rw [if_pos this]; omega
 have HC9 := hid hcl9
 have HPB : Hid (promB n ls = (rb && (decide (cl ≤ (m : Int)) && (okAll n ls && ballB ls)))) := hid (by unfold promB; rw [hrb, hcl, HN.out])
 clear hrb hcl hcl9
 go_enter Tryz.func98, Tryz.ntmps98
 rcases rb with _ | _
 · go_wp2_with (first | (go_at_call 22; refine (hR _).mono ?_; rintro e w' ⟨rfl, rfl⟩) | (go_at_call 26; refine (hC _).mono ?_; rintro e w' ⟨rfl, rfl⟩) | fail)
   go_ret
   exact ⟨by rw [HPB.out]; rfl, Below.refl _ _⟩
 · by_cases hcm : cl ≤ (m : Int)
   · have hcn : ¬ (m : Int) < cl := by omega
     have HCD : Hid (decide (cl ≤ (m : Int)) = true) := hid (decide_eq_true hcm)
     clear hcm
     go_wp2_with (first | (go_at_call 22; refine (hR _).mono ?_; rintro e w' ⟨rfl, rfl⟩) | (go_at_call 26; refine (hC _).mono ?_; rintro e w' ⟨rfl, rfl⟩) | fail)
     go_loopw [20] (fun i wr => ∃ k : Nat, k ≤ m ∧ i = .int .i64 k ∧ Hid (∀ j x, j < k → ls[j]? = some x → okM n (hdC ls) (ls.take j) x = true) ∧ Hid (Below w.heap.size w wr) ∧ Hid (Heard wr w.heap.size (ls.take k))) (fun i _ => m - (RowKit.intOf i).toNat)
     case atStart => exact ⟨0, Nat.zero_le _, rfl, hid (fun j x hj => absurd hj (by omega)), hid ((Below.refl _ w).alloc (Nat.le_refl _) _), hid (Heard.start w)⟩
     case round =>
      obtain ⟨k, hk, rfl, HI, HB, HH⟩ := hrel
      by_cases hlt : k < m
      · have hlti : ((k : Int) < m) := by omega
        obtain rfl := ha (by omega)
        obtain ⟨y, hy⟩ : ∃ y, ls[k]? = some y := ⟨ls[k]'(by rw [← HN.out]; exact hlt), List.getElem?_eq_getElem (by rw [← HN.out]; exact hlt)⟩
        have hbw := hb (by omega)
        have HC : Hid (wr.rangeAt b (o + k * 20) y.m.list) := hid ((HCC.out.on HB.out fun _ => hbw) k y.m (at_mgs hy))
        have HY := hid hy
        have HYA := hid ((HA.out y (List.mem_of_getElem? hy)).on HB.out)
        clear hy hbw
        have HYS := hid (HSH.out y (List.mem_of_getElem? HY.out))
        obtain ⟨f0, hf0⟩ : ∃ y, ls[0]? = some y := ⟨ls[0]'(by rw [← HN.out]; omega), List.getElem?_eq_getElem (by rw [← HN.out]; omega)⟩
        have HHC : Hid (hdC ls = f0.m.c) := hid (by unfold hdC; rw [List.head?_eq_getElem?, hf0]; rfl)
        have HBW := hid (hb (by omega))
        have HC0 : Hid (wr.rangeAt b o f0.m.list) := hid (by have := (HCC.out.on HB.out fun _ => HBW.out) 0 f0.m (at_mgs hf0); rwa [Nat.zero_mul, Nat.add_zero] at this)
        clear hf0
        obtain ⟨mb, hmb⟩ : ∃ z, z = mayB y := ⟨_, rfl⟩
        have HMB := hid hmb
        have HCM : Hid (∀ W, Below wr.heap.size wr W → Calls Tryz.prog 119 #[.agg y.m.arr] W fun e w' => e = .returned (.bool mb) ∧ Below W.heap.size W w') := hid (fun W hW => by rw [hmb]; exact cMayB (HYA.out.on hW) HYS.out)
        clear hmb
        have hq : w.heap.size < wr.heap.size := HH.out.lt
        have hbw : b < wr.heap.size := Nat.lt_of_lt_of_le HBW.out HB.out.size
        have HQ := hid hq
        have HBX := hid hbw
        clear hq hbw
        go_wp2_with (first
         | ((with_reducible refine loadMl (x := ?lx1) (b := ?lb1) (o := ?lo1) y.m ?lg1 ?lp1 ?lxx1 ?lc1 ?_); (case lg1 => rfl); (case lp1 => rfl); (case lxx1 => rfl); (case lc1 => exact HC.out))
         | ((with_reducible refine storeM (x := ?sx2) (y := ?sy2) (b := wr.heap.size) y.m ?sg2 ?so2 ?sxx2 ?syy2 ?sc2 ?sh2); (case sg2 => rfl); (case so2 => rfl); (case sxx2 => rfl); (case syy2 => rfl); (case sc2 => exact roomZ wr); intro W1 hO hU; have HO1 := hid hO; have HB1 : Hid (Below wr.heap.size wr W1) := hid ((laid1_b wr zeroMc).trans (hU.below wr.heap.size (Nat.le_refl _))); clear hO hU)
         | fail)
        have HBw1 : Hid (Below w.heap.size w W1) := hid (HB.out.trans (HB1.out.mono HB.out.size))
        have HH1 := hid (HH.out.on HB1.out)
        have hwl : wr.heap.size < W1.heap.size := (Array.getElem?_eq_some_iff.1 HO1.out).1
        have HWL := hid hwl
        clear hwl
        rcases mb with _ | _
        · have HE : Hid (okAll n ls = false) := hid (okAll_no HY.out (okM_false fun hh => by rw [← HMB.out] at hh; cases hh.1))
          refine rh_start (S := fun W => Below W1.heap.size W1 W) (n := 24) (listed := #[false, false, false, false, false, false, false, false, false, false, false, false, false, false, false, false, false, false, false, false, false, false, false, false]) (by kernel_rfl) rfl rfl ?_
          have HS0 : Hid (Below W1.heap.size W1 W1.drew) := hid (belowDrew (Below.refl _ _))
          generalize W1.drew = wd at HS0 ⊢
          refine rh_load (i := 0) (o := ?o3) (cs := y.m.list) (T := 48) (x := ?x3) (b := ?b3) (q := ?q3) (listed' := ?l3) (a' := ?a3) ?hi3 (by kernel_rfl) (by kernel_rfl) (by kernel_rfl) ?hq3 ?hl3 ?hg3 ?ho3 ?hx3 ?hc3 Tryz.underlying48 rfl (infoM y.m) ?ha3 HS0.out ?hh3
          case hi3 => (simp only [List.getElem?_toArray, List.getElem?_cons_zero]; try rfl)
          case hq3 => exact fun _ _ _ h => h
          case hl3 => (simp only [List.setIfInBounds_toArray, List.set_cons_zero]; try rfl)
          case hg3 => rfl
          case ho3 => rfl
          case hx3 => rfl
          case hc3 => exact fun W hW => OM.range (heapB HO1.out hW HWL.out)
          case ha3 => (show Act.put _ _ (Value.agg y.m.arr) = _); (simp only [Act.put,gD,gE,gF]; try rfl)
          refine wpAnyH_ready (rs := [1]) (by kernel_rfl) (by simp) ?_
          refine rh_cons (i := 1) (o := ?o4) (listed' := ?l4) ?hi4 ?hl4 ?hg4 ?hh4 ?hs4
          case hi4 => (simp only [gA,gB,gC]; try rfl)
          case hl4 => (simp only [gD,gE,gF]; try rfl)
          case hg4 => rfl
          case hs4 => exact AllReadyH.nil
          intro K hK
          go_simp
          refine (HCM.out _ (HB1.out.trans (HS0.out.mono HB1.out.size))).mono ?_
          rintro z w1 ⟨rfl, hB⟩
          have HS1 := hid (HS0.out.trans (hB.mono HS0.out.size))
          clear hB
          refine hK.out _ _ HS1.out ?_
          clear hK K
          refine tkS 2 ?o5 ?v5 ?l5 ?a5 ?hi5 ?hq5 ?hl5 ?hw5 ?hv5 ?ha5 HS1.out ?hh5
          case hi5 => (simp only [gA,gB,gC]; try rfl)
          case hq5 => exact fun _ _ _ h => h
          case hl5 => (simp only [gD,gE,gF]; try rfl)
          case hw5 => rfl
          case hv5 =>
           intro W hW
           go_simp
           try with_reducible rfl
          case ha5 => (simp only [Act.put,gD,gE,gF]; try rfl)
          refine tkS 3 ?o6 ?v6 ?l6 ?a6 ?hi6 ?hq6 ?hl6 ?hw6 ?hv6 ?ha6 HS1.out ?hh6
          case hi6 => (simp only [gA,gB,gC]; try rfl)
          case hq6 => exact fun _ _ _ h => h
          case hl6 => (simp only [gD,gE,gF]; try rfl)
          case hw6 => rfl
          case hv6 =>
           intro W hW
           go_simp
           try with_reducible rfl
          case ha6 => (simp only [Act.put,gD,gE,gF]; try rfl)
          refine tkK 4 ?o7 ?l7 ?a7 ?hi7 ?hq7 ?hl7 ?hw7 ?ha7 HS1.out ?hh7
          case hi7 => (simp only [gA,gB,gC]; try rfl)
          case hq7 => exact fun _ _ _ h => h
          case hl7 => (simp only [gD,gE,gF]; try rfl)
          case hw7 => rfl
          case ha7 => (simp only [Act.put,gD,gE,gF]; try rfl)
          refine tkK 5 ?o8 ?l8 ?a8 ?hi8 ?hq8 ?hl8 ?hw8 ?ha8 HS1.out ?hh8
          case hi8 => (simp only [gA,gB,gC]; try rfl)
          case hq8 => exact fun _ _ _ h => h
          case hl8 => (simp only [gD,gE,gF]; try rfl)
          case hw8 => rfl
          case ha8 => (simp only [Act.put,gD,gE,gF]; try rfl)
          refine tkK 6 ?o9 ?l9 ?a9 ?hi9 ?hq9 ?hl9 ?hw9 ?ha9 HS1.out ?hh9
          case hi9 => (simp only [gA,gB,gC]; try rfl)
          case hq9 => exact fun _ _ _ h => h
          case hl9 => (simp only [gD,gE,gF]; try rfl)
          case hw9 => rfl
          case ha9 => (simp only [Act.put,gD,gE,gF]; try rfl)
          refine tkK 7 ?o10 ?l10 ?a10 ?hi10 ?hq10 ?hl10 ?hw10 ?ha10 HS1.out ?hh10
          case hi10 => (simp only [gA,gB,gC]; try rfl)
          case hq10 => exact fun _ _ _ h => h
          case hl10 => (simp only [gD,gE,gF]; try rfl)
          case hw10 => rfl
          case ha10 => (simp only [Act.put,gD,gE,gF]; try rfl)
          refine tkK 8 ?o11 ?l11 ?a11 ?hi11 ?hq11 ?hl11 ?hw11 ?ha11 HS1.out ?hh11
          case hi11 => (simp only [gA,gB,gC]; try rfl)
          case hq11 => exact fun _ _ _ h => h
          case hl11 => (simp only [gD,gE,gF]; try rfl)
          case hw11 => rfl
          case ha11 => (simp only [Act.put,gD,gE,gF]; try rfl)
          refine tkK 9 ?o12 ?l12 ?a12 ?hi12 ?hq12 ?hl12 ?hw12 ?ha12 HS1.out ?hh12
          case hi12 => (simp only [gA,gB,gC]; try rfl)
          case hq12 => exact fun _ _ _ h => h
          case hl12 => (simp only [gD,gE,gF]; try rfl)
          case hw12 => rfl
          case ha12 => (simp only [Act.put,gD,gE,gF]; try rfl)
          refine tkK 10 ?o13 ?l13 ?a13 ?hi13 ?hq13 ?hl13 ?hw13 ?ha13 HS1.out ?hh13
          case hi13 => (simp only [gA,gB,gC]; try rfl)
          case hq13 => exact fun _ _ _ h => h
          case hl13 => (simp only [gD,gE,gF]; try rfl)
          case hw13 => rfl
          case ha13 => (simp only [Act.put,gD,gE,gF]; try rfl)
          refine tkS 11 ?o14 ?v14 ?l14 ?a14 ?hi14 ?hq14 ?hl14 ?hw14 ?hv14 ?ha14 HS1.out ?hh14
          case hi14 => (simp only [gA,gB,gC]; try rfl)
          case hq14 => exact fun _ _ _ h => h
          case hl14 => (simp only [gD,gE,gF]; try rfl)
          case hw14 => rfl
          case hv14 =>
           intro W hW
           go_simp
           try with_reducible rfl
          case ha14 => (simp only [Act.put,gD,gE,gF]; try rfl)
          refine tkS 12 ?o15 ?v15 ?l15 ?a15 ?hi15 ?hq15 ?hl15 ?hw15 ?hv15 ?ha15 HS1.out ?hh15
          case hi15 => (simp only [gA,gB,gC]; try rfl)
          case hq15 => exact fun _ _ _ h => h
          case hl15 => (simp only [gD,gE,gF]; try rfl)
          case hw15 => rfl
          case hv15 =>
           intro W hW
           go_simp
           try with_reducible rfl
          case ha15 => (simp only [Act.put,gD,gE,gF]; try rfl)
          refine tkK 13 ?o16 ?l16 ?a16 ?hi16 ?hq16 ?hl16 ?hw16 ?ha16 HS1.out ?hh16
          case hi16 => (simp only [gA,gB,gC]; try rfl)
          case hq16 => exact fun _ _ _ h => h
          case hl16 => (simp only [gD,gE,gF]; try rfl)
          case hw16 => rfl
          case ha16 => (simp only [Act.put,gD,gE,gF]; try rfl)
          refine tkK 14 ?o17 ?l17 ?a17 ?hi17 ?hq17 ?hl17 ?hw17 ?ha17 HS1.out ?hh17
          case hi17 => (simp only [gA,gB,gC]; try rfl)
          case hq17 => exact fun _ _ _ h => h
          case hl17 => (simp only [gD,gE,gF]; try rfl)
          case hw17 => rfl
          case ha17 => (simp only [Act.put,gD,gE,gF]; try rfl)
          refine tkK 15 ?o18 ?l18 ?a18 ?hi18 ?hq18 ?hl18 ?hw18 ?ha18 HS1.out ?hh18
          case hi18 => (simp only [gA,gB,gC]; try rfl)
          case hq18 => exact fun _ _ _ h => h
          case hl18 => (simp only [gD,gE,gF]; try rfl)
          case hw18 => rfl
          case ha18 => (simp only [Act.put,gD,gE,gF]; try rfl)
          refine tkK 16 ?o19 ?l19 ?a19 ?hi19 ?hq19 ?hl19 ?hw19 ?ha19 HS1.out ?hh19
          case hi19 => (simp only [gA,gB,gC]; try rfl)
          case hq19 => exact fun _ _ _ h => h
          case hl19 => (simp only [gD,gE,gF]; try rfl)
          case hw19 => rfl
          case ha19 => (simp only [Act.put,gD,gE,gF]; try rfl)
          refine tkS 17 ?o20 ?v20 ?l20 ?a20 ?hi20 ?hq20 ?hl20 ?hw20 ?hv20 ?ha20 HS1.out ?hh20
          case hi20 => (simp only [gA,gB,gC]; try rfl)
          case hq20 => exact fun _ _ _ h => h
          case hl20 => (simp only [gD,gE,gF]; try rfl)
          case hw20 => rfl
          case hv20 =>
           intro W hW
           go_simp
           try with_reducible rfl
          case ha20 => (simp only [Act.put,gD,gE,gF]; try rfl)
          refine tkS 18 ?o21 ?v21 ?l21 ?a21 ?hi21 ?hq21 ?hl21 ?hw21 ?hv21 ?ha21 HS1.out ?hh21
          case hi21 => (simp only [gA,gB,gC]; try rfl)
          case hq21 => exact fun _ _ _ h => h
          case hl21 => (simp only [gD,gE,gF]; try rfl)
          case hw21 => rfl
          case hv21 =>
           intro W hW
           go_simp
           try with_reducible rfl
          case ha21 => (simp only [Act.put,gD,gE,gF]; try rfl)
          refine tkK 19 ?o22 ?l22 ?a22 ?hi22 ?hq22 ?hl22 ?hw22 ?ha22 HS1.out ?hh22
          case hi22 => (simp only [gA,gB,gC]; try rfl)
          case hq22 => exact fun _ _ _ h => h
          case hl22 => (simp only [gD,gE,gF]; try rfl)
          case hw22 => rfl
          case ha22 => (simp only [Act.put,gD,gE,gF]; try rfl)
          refine tkK 20 ?o23 ?l23 ?a23 ?hi23 ?hq23 ?hl23 ?hw23 ?ha23 HS1.out ?hh23
          case hi23 => (simp only [gA,gB,gC]; try rfl)
          case hq23 => exact fun _ _ _ h => h
          case hl23 => (simp only [gD,gE,gF]; try rfl)
          case hw23 => rfl
          case ha23 => (simp only [Act.put,gD,gE,gF]; try rfl)
          refine tkK 21 ?o24 ?l24 ?a24 ?hi24 ?hq24 ?hl24 ?hw24 ?ha24 HS1.out ?hh24
          case hi24 => (simp only [gA,gB,gC]; try rfl)
          case hq24 => exact fun _ _ _ h => h
          case hl24 => (simp only [gD,gE,gF]; try rfl)
          case hw24 => rfl
          case ha24 => (simp only [Act.put,gD,gE,gF]; try rfl)
          refine tkK 22 ?o25 ?l25 ?a25 ?hi25 ?hq25 ?hl25 ?hw25 ?ha25 HS1.out ?hh25
          case hi25 => (simp only [gA,gB,gC]; try rfl)
          case hq25 => exact fun _ _ _ h => h
          case hl25 => (simp only [gD,gE,gF]; try rfl)
          case hw25 => rfl
          case ha25 => (simp only [Act.put,gD,gE,gF]; try rfl)
          refine tkS 23 ?o26 ?v26 ?l26 ?a26 ?hi26 ?hq26 ?hl26 ?hw26 ?hv26 ?ha26 HS1.out ?hh26
          case hi26 => (simp only [gA,gB,gC]; try rfl)
          case hq26 => exact fun _ _ _ h => h
          case hl26 => (simp only [gD,gE,gF]; try rfl)
          case hw26 => rfl
          case hv26 =>
           intro W hW
           go_simp
           try with_reducible rfl
          case ha26 => (simp only [Act.put,gD,gE,gF]; try rfl)
          refine wpAnyH_done (by kernel_rfl) ?_ _
          go_wp2_with fail
          go_ret
          exact ⟨by rw [HPB.out, HCD.out, HE.out]; rfl, HBw1.out.trans (HS1.out.mono HBw1.out.size)⟩
        · obtain ⟨fi, hfi, hf9⟩ := may_from HMB.out.symm
          have HFI := hid hfi
          have HF9 := hid hf9
          clear hfi
          rcases hsm : y.m.c.same f0.m.c with _ | _
          · have HSM := hid hsm
            clear hsm
            have HE : Hid (okAll n ls = false) := hid (okAll_no HY.out (okM_false fun hh => by rw [HHC.out, HSM.out] at hh; cases hh.2.1))
            refine rh_start (S := fun W => Below W1.heap.size W1 W) (n := 24) (listed := #[false, false, false, false, false, false, false, false, false, false, false, false, false, false, false, false, false, false, false, false, false, false, false, false]) (by kernel_rfl) rfl rfl ?_
            have HS0 : Hid (Below W1.heap.size W1 W1.drew) := hid (belowDrew (Below.refl _ _))
            generalize W1.drew = wd at HS0 ⊢
            refine rh_load (i := 0) (o := ?o27) (cs := y.m.list) (T := 48) (x := ?x27) (b := ?b27) (q := ?q27) (listed' := ?l27) (a' := ?a27) ?hi27 (by kernel_rfl) (by kernel_rfl) (by kernel_rfl) ?hq27 ?hl27 ?hg27 ?ho27 ?hx27 ?hc27 Tryz.underlying48 rfl (infoM y.m) ?ha27 HS0.out ?hh27
            case hi27 => (simp only [List.getElem?_toArray, List.getElem?_cons_zero]; try rfl)
            case hq27 => exact fun _ _ _ h => h
            case hl27 => (simp only [List.setIfInBounds_toArray, List.set_cons_zero]; try rfl)
            case hg27 => rfl
            case ho27 => rfl
            case hx27 => rfl
            case hc27 => exact fun W hW => OM.range (heapB HO1.out hW HWL.out)
            case ha27 => (show Act.put _ _ (Value.agg y.m.arr) = _); (simp only [Act.put,gD,gE,gF]; try rfl)
            refine wpAnyH_ready (rs := [1]) (by kernel_rfl) (by simp) ?_
            refine rh_cons (i := 1) (o := ?o28) (listed' := ?l28) ?hi28 ?hl28 ?hg28 ?hh28 ?hs28
            case hi28 => (simp only [gA,gB,gC]; try rfl)
            case hl28 => (simp only [gD,gE,gF]; try rfl)
            case hg28 => rfl
            case hs28 => exact AllReadyH.nil
            intro K hK
            go_simp
            refine (HCM.out _ (HB1.out.trans (HS0.out.mono HB1.out.size))).mono ?_
            rintro z w1 ⟨rfl, hB⟩
            have HS1 := hid (HS0.out.trans (hB.mono HS0.out.size))
            clear hB
            refine hK.out _ _ HS1.out ?_
            clear hK K
            refine tkS 2 ?o29 ?v29 ?l29 ?a29 ?hi29 ?hq29 ?hl29 ?hw29 ?hv29 ?ha29 HS1.out ?hh29
            case hi29 => (simp only [gA,gB,gC]; try rfl)
            case hq29 => exact fun _ _ _ h => h
            case hl29 => (simp only [gD,gE,gF]; try rfl)
            case hw29 => rfl
            case hv29 =>
             intro W hW
             go_simp
             try with_reducible rfl
            case ha29 => (simp only [Act.put,gD,gE,gF]; try rfl)
            refine tkS 3 ?o30 ?v30 ?l30 ?a30 ?hi30 ?hq30 ?hl30 ?hw30 ?hv30 ?ha30 HS1.out ?hh30
            case hi30 => (simp only [gA,gB,gC]; try rfl)
            case hq30 => exact fun _ _ _ h => h
            case hl30 => (simp only [gD,gE,gF]; try rfl)
            case hw30 => rfl
            case hv30 =>
             intro W hW
             go_simp
             try with_reducible rfl
            case ha30 => (simp only [Act.put,gD,gE,gF]; try rfl)
            refine tkS 4 ?o31 ?v31 ?l31 ?a31 ?hi31 ?hq31 ?hl31 ?hw31 ?hv31 ?ha31 HS1.out ?hh31
            case hi31 => (simp only [gA,gB,gC]; try rfl)
            case hq31 => exact fun _ _ _ h => h
            case hl31 => (simp only [gD,gE,gF]; try rfl)
            case hw31 => rfl
            case hv31 =>
             intro W hW
             go_simp
             try with_reducible rfl
            case ha31 => (simp only [Act.put,gD,gE,gF]; try rfl)
            refine tkS 5 ?o32 ?v32 ?l32 ?a32 ?hi32 ?hq32 ?hl32 ?hw32 ?hv32 ?ha32 HS1.out ?hh32
            case hi32 => (simp only [gA,gB,gC]; try rfl)
            case hq32 => exact fun _ _ _ h => h
            case hl32 => (simp only [gD,gE,gF]; try rfl)
            case hw32 => rfl
            case hv32 =>
             intro W hW
             have c0 : W.cell? ⟨wr.heap.size, 4, none⟩ = some (.int .i64 y.m.c.i) := (OM.cell (m := y.m) (j := 4) (heapB HO1.out hW HWL.out) rfl); have c1 : W.cell? ⟨wr.heap.size, 5, none⟩ = some (.int .i64 y.m.c.k) := (OM.cell (m := y.m) (j := 5) (heapB HO1.out hW HWL.out) rfl); have c2 : W.cell? ⟨wr.heap.size, 6, none⟩ = some (.int .i64 y.m.c.s) := (OM.cell (m := y.m) (j := 6) (heapB HO1.out hW HWL.out) rfl); have c3 : W.cell? ⟨wr.heap.size, 7, none⟩ = some (.int .i64 y.m.c.t) := (OM.cell (m := y.m) (j := 7) (heapB HO1.out hW HWL.out) rfl); have c4 : W.cell? ⟨wr.heap.size, 8, none⟩ = some (.int .i64 y.m.c.d) := (OM.cell (m := y.m) (j := 8) (heapB HO1.out hW HWL.out) rfl); have c5 : W.cell? ⟨wr.heap.size, 9, none⟩ = some (.int .i64 y.m.c.p) := (OM.cell (m := y.m) (j := 9) (heapB HO1.out hW HWL.out) rfl); have c6 : W.cell? ⟨wr.heap.size, 10, none⟩ = some (.int .i64 y.m.c.q) := (OM.cell (m := y.m) (j := 10) (heapB HO1.out hW HWL.out) rfl)
             go_simp
             try with_reducible rfl
            case ha32 => (simp only [Act.put,gD,gE,gF]; try rfl)
            refine tkS 6 ?o33 ?v33 ?l33 ?a33 ?hi33 ?hq33 ?hl33 ?hw33 ?hv33 ?ha33 HS1.out ?hh33
            case hi33 => (simp only [gA,gB,gC]; try rfl)
            case hq33 => exact fun _ _ _ h => h
            case hl33 => (simp only [gD,gE,gF]; try rfl)
            case hw33 => rfl
            case hv33 =>
             intro W hW
             have hm0 : 0 < m := by omega
             go_simp
             try with_reducible rfl
            case ha33 => (simp only [Act.put,gD,gE,gF]; try rfl)
            refine tkS 7 ?o34 ?v34 ?l34 ?a34 ?hi34 ?hq34 ?hl34 ?hw34 ?hv34 ?ha34 HS1.out ?hh34
            case hi34 => (simp only [gA,gB,gC]; try rfl)
            case hq34 => exact fun _ _ _ h => h
            case hl34 => (simp only [gD,gE,gF]; try rfl)
            case hw34 => rfl
            case hv34 =>
             intro W hW
             have hm0 : 0 < m := by omega
             go_simp
             try with_reducible rfl
            case ha34 => (simp only [Act.put,gD,gE,gF]; try rfl)
            refine tkS 8 ?o35 ?v35 ?l35 ?a35 ?hi35 ?hq35 ?hl35 ?hw35 ?hv35 ?ha35 HS1.out ?hh35
            case hi35 => (simp only [gA,gB,gC]; try rfl)
            case hq35 => exact fun _ _ _ h => h
            case hl35 => (simp only [gD,gE,gF]; try rfl)
            case hw35 => rfl
            case hv35 =>
             intro W hW
             have hm0 : 0 < m := by omega
             go_simp
             try with_reducible rfl
            case ha35 => (simp only [Act.put,gD,gE,gF]; try rfl)
            refine tkS 9 ?o36 ?v36 ?l36 ?a36 ?hi36 ?hq36 ?hl36 ?hw36 ?hv36 ?ha36 HS1.out ?hh36
            case hi36 => (simp only [gA,gB,gC]; try rfl)
            case hq36 => exact fun _ _ _ h => h
            case hl36 => (simp only [gD,gE,gF]; try rfl)
            case hw36 => rfl
            case hv36 =>
             intro W hW
             have c0 : W.cell? ⟨b, o + 4, none⟩ = some (.int .i64 f0.m.c.i) := (hW.cell (Nat.lt_of_lt_of_le HBX.out HB1.out.size)).trans ((HB1.out.cell HBX.out).trans (HC0.out 4 _ rfl)); have c1 : W.cell? ⟨b, o + 5, none⟩ = some (.int .i64 f0.m.c.k) := (hW.cell (Nat.lt_of_lt_of_le HBX.out HB1.out.size)).trans ((HB1.out.cell HBX.out).trans (HC0.out 5 _ rfl)); have c2 : W.cell? ⟨b, o + 6, none⟩ = some (.int .i64 f0.m.c.s) := (hW.cell (Nat.lt_of_lt_of_le HBX.out HB1.out.size)).trans ((HB1.out.cell HBX.out).trans (HC0.out 6 _ rfl)); have c3 : W.cell? ⟨b, o + 7, none⟩ = some (.int .i64 f0.m.c.t) := (hW.cell (Nat.lt_of_lt_of_le HBX.out HB1.out.size)).trans ((HB1.out.cell HBX.out).trans (HC0.out 7 _ rfl)); have c4 : W.cell? ⟨b, o + 8, none⟩ = some (.int .i64 f0.m.c.d) := (hW.cell (Nat.lt_of_lt_of_le HBX.out HB1.out.size)).trans ((HB1.out.cell HBX.out).trans (HC0.out 8 _ rfl)); have c5 : W.cell? ⟨b, o + 9, none⟩ = some (.int .i64 f0.m.c.p) := (hW.cell (Nat.lt_of_lt_of_le HBX.out HB1.out.size)).trans ((HB1.out.cell HBX.out).trans (HC0.out 9 _ rfl)); have c6 : W.cell? ⟨b, o + 10, none⟩ = some (.int .i64 f0.m.c.q) := (hW.cell (Nat.lt_of_lt_of_le HBX.out HB1.out.size)).trans ((HB1.out.cell HBX.out).trans (HC0.out 10 _ rfl))
             go_simp
             try with_reducible rfl
            case ha36 => (simp only [Act.put,gD,gE,gF]; try rfl)
            refine tkS 10 ?o37 ?v37 ?l37 ?a37 ?hi37 ?hq37 ?hl37 ?hw37 ?hv37 ?ha37 HS1.out ?hh37
            case hi37 => (simp only [gA,gB,gC]; try rfl)
            case hq37 => exact fun _ _ _ h => h
            case hl37 => (simp only [gD,gE,gF]; try rfl)
            case hw37 => rfl
            case hv37 =>
             intro W hW
             have hE := fun W => neqC HSM.out W; have hG := fun op p q W => guardC op p q y.m.c f0.m.c W; simp only [C7.v, cmV] at hE hG
             go_simp
             try with_reducible rfl
            case ha37 => (simp only [Act.put,gD,gE,gF]; try rfl)
            refine tkS 11 ?o38 ?v38 ?l38 ?a38 ?hi38 ?hq38 ?hl38 ?hw38 ?hv38 ?ha38 HS1.out ?hh38
            case hi38 => (simp only [gA,gB,gC]; try rfl)
            case hq38 => exact fun _ _ _ h => h
            case hl38 => (simp only [gD,gE,gF]; try rfl)
            case hw38 => rfl
            case hv38 =>
             intro W hW
             go_simp
             try with_reducible rfl
            case ha38 => (simp only [Act.put,gD,gE,gF]; try rfl)
            refine tkS 12 ?o39 ?v39 ?l39 ?a39 ?hi39 ?hq39 ?hl39 ?hw39 ?hv39 ?ha39 HS1.out ?hh39
            case hi39 => (simp only [gA,gB,gC]; try rfl)
            case hq39 => exact fun _ _ _ h => h
            case hl39 => (simp only [gD,gE,gF]; try rfl)
            case hw39 => rfl
            case hv39 =>
             intro W hW
             go_simp
             try with_reducible rfl
            case ha39 => (simp only [Act.put,gD,gE,gF]; try rfl)
            refine tkK 13 ?o40 ?l40 ?a40 ?hi40 ?hq40 ?hl40 ?hw40 ?ha40 HS1.out ?hh40
            case hi40 => (simp only [gA,gB,gC]; try rfl)
            case hq40 => exact fun _ _ _ h => h
            case hl40 => (simp only [gD,gE,gF]; try rfl)
            case hw40 => rfl
            case ha40 => (simp only [Act.put,gD,gE,gF]; try rfl)
            refine tkK 14 ?o41 ?l41 ?a41 ?hi41 ?hq41 ?hl41 ?hw41 ?ha41 HS1.out ?hh41
            case hi41 => (simp only [gA,gB,gC]; try rfl)
            case hq41 => exact fun _ _ _ h => h
            case hl41 => (simp only [gD,gE,gF]; try rfl)
            case hw41 => rfl
            case ha41 => (simp only [Act.put,gD,gE,gF]; try rfl)
            refine tkK 15 ?o42 ?l42 ?a42 ?hi42 ?hq42 ?hl42 ?hw42 ?ha42 HS1.out ?hh42
            case hi42 => (simp only [gA,gB,gC]; try rfl)
            case hq42 => exact fun _ _ _ h => h
            case hl42 => (simp only [gD,gE,gF]; try rfl)
            case hw42 => rfl
            case ha42 => (simp only [Act.put,gD,gE,gF]; try rfl)
            refine tkK 16 ?o43 ?l43 ?a43 ?hi43 ?hq43 ?hl43 ?hw43 ?ha43 HS1.out ?hh43
            case hi43 => (simp only [gA,gB,gC]; try rfl)
            case hq43 => exact fun _ _ _ h => h
            case hl43 => (simp only [gD,gE,gF]; try rfl)
            case hw43 => rfl
            case ha43 => (simp only [Act.put,gD,gE,gF]; try rfl)
            refine tkS 17 ?o44 ?v44 ?l44 ?a44 ?hi44 ?hq44 ?hl44 ?hw44 ?hv44 ?ha44 HS1.out ?hh44
            case hi44 => (simp only [gA,gB,gC]; try rfl)
            case hq44 => exact fun _ _ _ h => h
            case hl44 => (simp only [gD,gE,gF]; try rfl)
            case hw44 => rfl
            case hv44 =>
             intro W hW
             go_simp
             try with_reducible rfl
            case ha44 => (simp only [Act.put,gD,gE,gF]; try rfl)
            refine tkS 18 ?o45 ?v45 ?l45 ?a45 ?hi45 ?hq45 ?hl45 ?hw45 ?hv45 ?ha45 HS1.out ?hh45
            case hi45 => (simp only [gA,gB,gC]; try rfl)
            case hq45 => exact fun _ _ _ h => h
            case hl45 => (simp only [gD,gE,gF]; try rfl)
            case hw45 => rfl
            case hv45 =>
             intro W hW
             go_simp
             try with_reducible rfl
            case ha45 => (simp only [Act.put,gD,gE,gF]; try rfl)
            refine tkK 19 ?o46 ?l46 ?a46 ?hi46 ?hq46 ?hl46 ?hw46 ?ha46 HS1.out ?hh46
            case hi46 => (simp only [gA,gB,gC]; try rfl)
            case hq46 => exact fun _ _ _ h => h
            case hl46 => (simp only [gD,gE,gF]; try rfl)
            case hw46 => rfl
            case ha46 => (simp only [Act.put,gD,gE,gF]; try rfl)
            refine tkK 20 ?o47 ?l47 ?a47 ?hi47 ?hq47 ?hl47 ?hw47 ?ha47 HS1.out ?hh47
            case hi47 => (simp only [gA,gB,gC]; try rfl)
            case hq47 => exact fun _ _ _ h => h
            case hl47 => (simp only [gD,gE,gF]; try rfl)
            case hw47 => rfl
            case ha47 => (simp only [Act.put,gD,gE,gF]; try rfl)
            refine tkK 21 ?o48 ?l48 ?a48 ?hi48 ?hq48 ?hl48 ?hw48 ?ha48 HS1.out ?hh48
            case hi48 => (simp only [gA,gB,gC]; try rfl)
            case hq48 => exact fun _ _ _ h => h
            case hl48 => (simp only [gD,gE,gF]; try rfl)
            case hw48 => rfl
            case ha48 => (simp only [Act.put,gD,gE,gF]; try rfl)
            refine tkK 22 ?o49 ?l49 ?a49 ?hi49 ?hq49 ?hl49 ?hw49 ?ha49 HS1.out ?hh49
            case hi49 => (simp only [gA,gB,gC]; try rfl)
            case hq49 => exact fun _ _ _ h => h
            case hl49 => (simp only [gD,gE,gF]; try rfl)
            case hw49 => rfl
            case ha49 => (simp only [Act.put,gD,gE,gF]; try rfl)
            refine tkS 23 ?o50 ?v50 ?l50 ?a50 ?hi50 ?hq50 ?hl50 ?hw50 ?hv50 ?ha50 HS1.out ?hh50
            case hi50 => (simp only [gA,gB,gC]; try rfl)
            case hq50 => exact fun _ _ _ h => h
            case hl50 => (simp only [gD,gE,gF]; try rfl)
            case hw50 => rfl
            case hv50 =>
             intro W hW
             go_simp
             try with_reducible rfl
            case ha50 => (simp only [Act.put,gD,gE,gF]; try rfl)
            refine wpAnyH_done (by kernel_rfl) ?_ _
            go_wp2_with fail
            go_ret
            exact ⟨by rw [HPB.out, HCD.out, HE.out]; rfl, HBw1.out.trans (HS1.out.mono HBw1.out.size)⟩
          · have HSM := hid hsm
            clear hsm
            by_cases hfn : (fi : Int) < n
            · have hfn' : ¬ n ≤ (fi : Int) := by omega
              have hfi0 : (0 : Int) ≤ (fi : Int) := by omega
              have hfi9 : (fi : Int) < 9 := by omega
              obtain ⟨hd, hhd⟩ : ∃ z, z = ((ls.take k).any fun x => decide (x.m.fr = (fi : Int))) := ⟨_, rfl⟩
              have HHD := hid hhd
              clear hhd
              have HFN := hid hfn
              rcases hd with _ | _
              · refine rh_start (S := fun W => Below W1.heap.size W1 W) (n := 24) (listed := #[false, false, false, false, false, false, false, false, false, false, false, false, false, false, false, false, false, false, false, false, false, false, false, false]) (by kernel_rfl) rfl rfl ?_
                have HS0 : Hid (Below W1.heap.size W1 W1.drew) := hid (belowDrew (Below.refl _ _))
                generalize W1.drew = wd at HS0 ⊢
                refine rh_load (i := 0) (o := ?o75) (cs := y.m.list) (T := 48) (x := ?x75) (b := ?b75) (q := ?q75) (listed' := ?l75) (a' := ?a75) ?hi75 (by kernel_rfl) (by kernel_rfl) (by kernel_rfl) ?hq75 ?hl75 ?hg75 ?ho75 ?hx75 ?hc75 Tryz.underlying48 rfl (infoM y.m) ?ha75 HS0.out ?hh75
                case hi75 => (simp only [List.getElem?_toArray, List.getElem?_cons_zero]; try rfl)
                case hq75 => exact fun _ _ _ h => h
                case hl75 => (simp only [List.setIfInBounds_toArray, List.set_cons_zero]; try rfl)
                case hg75 => rfl
                case ho75 => rfl
                case hx75 => rfl
                case hc75 => exact fun W hW => OM.range (heapB HO1.out hW HWL.out)
                case ha75 => (show Act.put _ _ (Value.agg y.m.arr) = _); (simp only [Act.put,gD,gE,gF]; try rfl)
                refine wpAnyH_ready (rs := [1]) (by kernel_rfl) (by simp) ?_
                refine rh_cons (i := 1) (o := ?o76) (listed' := ?l76) ?hi76 ?hl76 ?hg76 ?hh76 ?hs76
                case hi76 => (simp only [gA,gB,gC]; try rfl)
                case hl76 => (simp only [gD,gE,gF]; try rfl)
                case hg76 => rfl
                case hs76 => exact AllReadyH.nil
                intro K hK
                go_simp
                refine (HCM.out _ (HB1.out.trans (HS0.out.mono HB1.out.size))).mono ?_
                rintro z w1 ⟨rfl, hB⟩
                have HS1 := hid (HS0.out.trans (hB.mono HS0.out.size))
                clear hB
                refine hK.out _ _ HS1.out ?_
                clear hK K
                refine tkS 2 ?o77 ?v77 ?l77 ?a77 ?hi77 ?hq77 ?hl77 ?hw77 ?hv77 ?ha77 HS1.out ?hh77
                case hi77 => (simp only [gA,gB,gC]; try rfl)
                case hq77 => exact fun _ _ _ h => h
                case hl77 => (simp only [gD,gE,gF]; try rfl)
                case hw77 => rfl
                case hv77 =>
                 intro W hW
                 go_simp
                 try with_reducible rfl
                case ha77 => (simp only [Act.put,gD,gE,gF]; try rfl)
                refine tkS 3 ?o78 ?v78 ?l78 ?a78 ?hi78 ?hq78 ?hl78 ?hw78 ?hv78 ?ha78 HS1.out ?hh78
                case hi78 => (simp only [gA,gB,gC]; try rfl)
                case hq78 => exact fun _ _ _ h => h
                case hl78 => (simp only [gD,gE,gF]; try rfl)
                case hw78 => rfl
                case hv78 =>
                 intro W hW
                 go_simp
                 try with_reducible rfl
                case ha78 => (simp only [Act.put,gD,gE,gF]; try rfl)
                refine tkS 4 ?o79 ?v79 ?l79 ?a79 ?hi79 ?hq79 ?hl79 ?hw79 ?hv79 ?ha79 HS1.out ?hh79
                case hi79 => (simp only [gA,gB,gC]; try rfl)
                case hq79 => exact fun _ _ _ h => h
                case hl79 => (simp only [gD,gE,gF]; try rfl)
                case hw79 => rfl
                case hv79 =>
                 intro W hW
                 go_simp
                 try with_reducible rfl
                case ha79 => (simp only [Act.put,gD,gE,gF]; try rfl)
                refine tkS 5 ?o80 ?v80 ?l80 ?a80 ?hi80 ?hq80 ?hl80 ?hw80 ?hv80 ?ha80 HS1.out ?hh80
                case hi80 => (simp only [gA,gB,gC]; try rfl)
                case hq80 => exact fun _ _ _ h => h
                case hl80 => (simp only [gD,gE,gF]; try rfl)
                case hw80 => rfl
                case hv80 =>
                 intro W hW
                 have c0 : W.cell? ⟨wr.heap.size, 4, none⟩ = some (.int .i64 y.m.c.i) := (OM.cell (m := y.m) (j := 4) (heapB HO1.out hW HWL.out) rfl); have c1 : W.cell? ⟨wr.heap.size, 5, none⟩ = some (.int .i64 y.m.c.k) := (OM.cell (m := y.m) (j := 5) (heapB HO1.out hW HWL.out) rfl); have c2 : W.cell? ⟨wr.heap.size, 6, none⟩ = some (.int .i64 y.m.c.s) := (OM.cell (m := y.m) (j := 6) (heapB HO1.out hW HWL.out) rfl); have c3 : W.cell? ⟨wr.heap.size, 7, none⟩ = some (.int .i64 y.m.c.t) := (OM.cell (m := y.m) (j := 7) (heapB HO1.out hW HWL.out) rfl); have c4 : W.cell? ⟨wr.heap.size, 8, none⟩ = some (.int .i64 y.m.c.d) := (OM.cell (m := y.m) (j := 8) (heapB HO1.out hW HWL.out) rfl); have c5 : W.cell? ⟨wr.heap.size, 9, none⟩ = some (.int .i64 y.m.c.p) := (OM.cell (m := y.m) (j := 9) (heapB HO1.out hW HWL.out) rfl); have c6 : W.cell? ⟨wr.heap.size, 10, none⟩ = some (.int .i64 y.m.c.q) := (OM.cell (m := y.m) (j := 10) (heapB HO1.out hW HWL.out) rfl)
                 go_simp
                 try with_reducible rfl
                case ha80 => (simp only [Act.put,gD,gE,gF]; try rfl)
                refine tkS 6 ?o81 ?v81 ?l81 ?a81 ?hi81 ?hq81 ?hl81 ?hw81 ?hv81 ?ha81 HS1.out ?hh81
                case hi81 => (simp only [gA,gB,gC]; try rfl)
                case hq81 => exact fun _ _ _ h => h
                case hl81 => (simp only [gD,gE,gF]; try rfl)
                case hw81 => rfl
                case hv81 =>
                 intro W hW
                 have hm0 : 0 < m := by omega
                 go_simp
                 try with_reducible rfl
                case ha81 => (simp only [Act.put,gD,gE,gF]; try rfl)
                refine tkS 7 ?o82 ?v82 ?l82 ?a82 ?hi82 ?hq82 ?hl82 ?hw82 ?hv82 ?ha82 HS1.out ?hh82
                case hi82 => (simp only [gA,gB,gC]; try rfl)
                case hq82 => exact fun _ _ _ h => h
                case hl82 => (simp only [gD,gE,gF]; try rfl)
                case hw82 => rfl
                case hv82 =>
                 intro W hW
                 have hm0 : 0 < m := by omega
                 go_simp
                 try with_reducible rfl
                case ha82 => (simp only [Act.put,gD,gE,gF]; try rfl)
                refine tkS 8 ?o83 ?v83 ?l83 ?a83 ?hi83 ?hq83 ?hl83 ?hw83 ?hv83 ?ha83 HS1.out ?hh83
                case hi83 => (simp only [gA,gB,gC]; try rfl)
                case hq83 => exact fun _ _ _ h => h
                case hl83 => (simp only [gD,gE,gF]; try rfl)
                case hw83 => rfl
                case hv83 =>
                 intro W hW
                 have hm0 : 0 < m := by omega
                 go_simp
                 try with_reducible rfl
                case ha83 => (simp only [Act.put,gD,gE,gF]; try rfl)
                refine tkS 9 ?o84 ?v84 ?l84 ?a84 ?hi84 ?hq84 ?hl84 ?hw84 ?hv84 ?ha84 HS1.out ?hh84
                case hi84 => (simp only [gA,gB,gC]; try rfl)
                case hq84 => exact fun _ _ _ h => h
                case hl84 => (simp only [gD,gE,gF]; try rfl)
                case hw84 => rfl
                case hv84 =>
                 intro W hW
                 have c0 : W.cell? ⟨b, o + 4, none⟩ = some (.int .i64 f0.m.c.i) := (hW.cell (Nat.lt_of_lt_of_le HBX.out HB1.out.size)).trans ((HB1.out.cell HBX.out).trans (HC0.out 4 _ rfl)); have c1 : W.cell? ⟨b, o + 5, none⟩ = some (.int .i64 f0.m.c.k) := (hW.cell (Nat.lt_of_lt_of_le HBX.out HB1.out.size)).trans ((HB1.out.cell HBX.out).trans (HC0.out 5 _ rfl)); have c2 : W.cell? ⟨b, o + 6, none⟩ = some (.int .i64 f0.m.c.s) := (hW.cell (Nat.lt_of_lt_of_le HBX.out HB1.out.size)).trans ((HB1.out.cell HBX.out).trans (HC0.out 6 _ rfl)); have c3 : W.cell? ⟨b, o + 7, none⟩ = some (.int .i64 f0.m.c.t) := (hW.cell (Nat.lt_of_lt_of_le HBX.out HB1.out.size)).trans ((HB1.out.cell HBX.out).trans (HC0.out 7 _ rfl)); have c4 : W.cell? ⟨b, o + 8, none⟩ = some (.int .i64 f0.m.c.d) := (hW.cell (Nat.lt_of_lt_of_le HBX.out HB1.out.size)).trans ((HB1.out.cell HBX.out).trans (HC0.out 8 _ rfl)); have c5 : W.cell? ⟨b, o + 9, none⟩ = some (.int .i64 f0.m.c.p) := (hW.cell (Nat.lt_of_lt_of_le HBX.out HB1.out.size)).trans ((HB1.out.cell HBX.out).trans (HC0.out 9 _ rfl)); have c6 : W.cell? ⟨b, o + 10, none⟩ = some (.int .i64 f0.m.c.q) := (hW.cell (Nat.lt_of_lt_of_le HBX.out HB1.out.size)).trans ((HB1.out.cell HBX.out).trans (HC0.out 10 _ rfl))
                 go_simp
                 try with_reducible rfl
                case ha84 => (simp only [Act.put,gD,gE,gF]; try rfl)
                refine tkS 10 ?o85 ?v85 ?l85 ?a85 ?hi85 ?hq85 ?hl85 ?hw85 ?hv85 ?ha85 HS1.out ?hh85
                case hi85 => (simp only [gA,gB,gC]; try rfl)
                case hq85 => exact fun _ _ _ h => h
                case hl85 => (simp only [gD,gE,gF]; try rfl)
                case hw85 => rfl
                case hv85 =>
                 intro W hW
                 have hE := fun W => neqC HSM.out W; have hG := fun op p q W => guardC op p q y.m.c f0.m.c W; simp only [C7.v, cmV] at hE hG
                 go_simp
                 try with_reducible rfl
                case ha85 => (simp only [Act.put,gD,gE,gF]; try rfl)
                refine tkS 11 ?o86 ?v86 ?l86 ?a86 ?hi86 ?hq86 ?hl86 ?hw86 ?hv86 ?ha86 HS1.out ?hh86
                case hi86 => (simp only [gA,gB,gC]; try rfl)
                case hq86 => exact fun _ _ _ h => h
                case hl86 => (simp only [gD,gE,gF]; try rfl)
                case hw86 => rfl
                case hv86 =>
                 intro W hW
                 go_simp
                 try with_reducible rfl
                case ha86 => (simp only [Act.put,gD,gE,gF]; try rfl)
                refine tkS 12 ?o87 ?v87 ?l87 ?a87 ?hi87 ?hq87 ?hl87 ?hw87 ?hv87 ?ha87 HS1.out ?hh87
                case hi87 => (simp only [gA,gB,gC]; try rfl)
                case hq87 => exact fun _ _ _ h => h
                case hl87 => (simp only [gD,gE,gF]; try rfl)
                case hw87 => rfl
                case hv87 =>
                 intro W hW
                 go_simp
                 try with_reducible rfl
                case ha87 => (simp only [Act.put,gD,gE,gF]; try rfl)
                refine tkS 13 ?o88 ?v88 ?l88 ?a88 ?hi88 ?hq88 ?hl88 ?hw88 ?hv88 ?ha88 HS1.out ?hh88
                case hi88 => (simp only [gA,gB,gC]; try rfl)
                case hq88 => exact fun _ _ _ h => h
                case hl88 => (simp only [gD,gE,gF]; try rfl)
                case hw88 => rfl
                case hv88 =>
                 intro W hW
                 have c1 : W.cell? ⟨wr.heap.size, 1, none⟩ = some (.int .i64 (fi : Int)) := by rw [← HFI.out]; exact OM.cell (m := y.m) (j := 1) (heapB HO1.out hW HWL.out) rfl
                 go_simp
                 try with_reducible rfl
                case ha88 => (simp only [Act.put,gD,gE,gF]; try rfl)
                refine tkS 14 ?o89 ?v89 ?l89 ?a89 ?hi89 ?hq89 ?hl89 ?hw89 ?hv89 ?ha89 HS1.out ?hh89
                case hi89 => (simp only [gA,gB,gC]; try rfl)
                case hq89 => exact fun _ _ _ h => h
                case hl89 => (simp only [gD,gE,gF]; try rfl)
                case hw89 => rfl
                case hv89 =>
                 intro W hW
                 have c1 : W.cell? ⟨wr.heap.size, 1, none⟩ = some (.int .i64 (fi : Int)) := by rw [← HFI.out]; exact OM.cell (m := y.m) (j := 1) (heapB HO1.out hW HWL.out) rfl
                 go_simp
                 try with_reducible rfl
                case ha89 => (simp only [Act.put,gD,gE,gF]; try rfl)
                refine tkS 15 ?o90 ?v90 ?l90 ?a90 ?hi90 ?hq90 ?hl90 ?hw90 ?hv90 ?ha90 HS1.out ?hh90
                case hi90 => (simp only [gA,gB,gC]; try rfl)
                case hq90 => exact fun _ _ _ h => h
                case hl90 => (simp only [gD,gE,gF]; try rfl)
                case hw90 => rfl
                case hv90 =>
                 intro W hW
                 have c1 : W.cell? ⟨wr.heap.size, 1, none⟩ = some (.int .i64 (fi : Int)) := by rw [← HFI.out]; exact OM.cell (m := y.m) (j := 1) (heapB HO1.out hW HWL.out) rfl
                 go_simp
                 try with_reducible rfl
                case ha90 => (simp only [Act.put,gD,gE,gF]; try rfl)
                refine tkS 16 ?o91 ?v91 ?l91 ?a91 ?hi91 ?hq91 ?hl91 ?hw91 ?hv91 ?ha91 HS1.out ?hh91
                case hi91 => (simp only [gA,gB,gC]; try rfl)
                case hq91 => exact fun _ _ _ h => h
                case hl91 => (simp only [gD,gE,gF]; try rfl)
                case hw91 => rfl
                case hv91 =>
                 intro W hW
                 go_simp
                 try with_reducible rfl
                case ha91 => (simp only [Act.put,gD,gE,gF]; try rfl)
                refine tkS 17 ?o92 ?v92 ?l92 ?a92 ?hi92 ?hq92 ?hl92 ?hw92 ?hv92 ?ha92 HS1.out ?hh92
                case hi92 => (simp only [gA,gB,gC]; try rfl)
                case hq92 => exact fun _ _ _ h => h
                case hl92 => (simp only [gD,gE,gF]; try rfl)
                case hw92 => rfl
                case hv92 =>
                 intro W hW
                 go_simp
                 try with_reducible rfl
                case ha92 => (simp only [Act.put,gD,gE,gF]; try rfl)
                refine tkS 18 ?o93 ?v93 ?l93 ?a93 ?hi93 ?hq93 ?hl93 ?hw93 ?hv93 ?ha93 HS1.out ?hh93
                case hi93 => (simp only [gA,gB,gC]; try rfl)
                case hq93 => exact fun _ _ _ h => h
                case hl93 => (simp only [gD,gE,gF]; try rfl)
                case hw93 => rfl
                case hv93 =>
                 intro W hW
                 go_simp
                 try with_reducible rfl
                case ha93 => (simp only [Act.put,gD,gE,gF]; try rfl)
                refine tkS 19 ?o94 ?v94 ?l94 ?a94 ?hi94 ?hq94 ?hl94 ?hw94 ?hv94 ?ha94 HS1.out ?hh94
                case hi94 => (simp only [gA,gB,gC]; try rfl)
                case hq94 => exact fun _ _ _ h => h
                case hl94 => (simp only [gD,gE,gF]; try rfl)
                case hw94 => rfl
                case hv94 =>
                 intro W hW
                 have c1 : W.cell? ⟨wr.heap.size, 1, none⟩ = some (.int .i64 (fi : Int)) := by rw [← HFI.out]; exact OM.cell (m := y.m) (j := 1) (heapB HO1.out hW HWL.out) rfl
                 go_simp
                 try with_reducible rfl
                case ha94 => (simp only [Act.put,gD,gE,gF]; try rfl)
                refine tkS 20 ?o95 ?v95 ?l95 ?a95 ?hi95 ?hq95 ?hl95 ?hw95 ?hv95 ?ha95 HS1.out ?hh95
                case hi95 => (simp only [gA,gB,gC]; try rfl)
                case hq95 => exact fun _ _ _ h => h
                case hl95 => (simp only [gD,gE,gF]; try rfl)
                case hw95 => rfl
                case hv95 =>
                 intro W hW
                 have c1 : W.cell? ⟨wr.heap.size, 1, none⟩ = some (.int .i64 (fi : Int)) := by rw [← HFI.out]; exact OM.cell (m := y.m) (j := 1) (heapB HO1.out hW HWL.out) rfl
                 go_simp
                 try with_reducible rfl
                case ha95 => (simp only [Act.put,gD,gE,gF]; try rfl)
                refine tkS 21 ?o96 ?v96 ?l96 ?a96 ?hi96 ?hq96 ?hl96 ?hw96 ?hv96 ?ha96 HS1.out ?hh96
                case hi96 => (simp only [gA,gB,gC]; try rfl)
                case hq96 => exact fun _ _ _ h => h
                case hl96 => (simp only [gD,gE,gF]; try rfl)
                case hw96 => rfl
                case hv96 =>
                 intro W hW
                 go_simp
                 try with_reducible rfl
                case ha96 => (simp only [Act.put,gD,gE,gF]; try rfl)
                refine tkS 22 ?o97 ?v97 ?l97 ?a97 ?hi97 ?hq97 ?hl97 ?hw97 ?hv97 ?ha97 HS1.out ?hh97
                case hi97 => (simp only [gA,gB,gC]; try rfl)
                case hq97 => exact fun _ _ _ h => h
                case hl97 => (simp only [gD,gE,gF]; try rfl)
                case hw97 => rfl
                case hv97 =>
                 intro W hW
                 have c1 : W.cell? ⟨w.heap.size, fi, none⟩ = some (.bool false) := by rw [HHD.out]; exact ((HH1.out.on hW).cell HF9.out).1
                 go_simp
                 try with_reducible rfl
                case ha97 => (simp only [Act.put,gD,gE,gF]; try rfl)
                refine tkS 23 ?o98 ?v98 ?l98 ?a98 ?hi98 ?hq98 ?hl98 ?hw98 ?hv98 ?ha98 HS1.out ?hh98
                case hi98 => (simp only [gA,gB,gC]; try rfl)
                case hq98 => exact fun _ _ _ h => h
                case hl98 => (simp only [gD,gE,gF]; try rfl)
                case hw98 => rfl
                case hv98 =>
                 intro W hW
                 go_simp
                 try with_reducible rfl
                case ha98 => (simp only [Act.put,gD,gE,gF]; try rfl)
                refine wpAnyH_done (by kernel_rfl) ?_ _
                have HOW : Hid (OM w1 wr.heap.size y.m) := hid (heapB HO1.out HS1.out HWL.out)
                have HHW := hid (HH1.out.on HS1.out)
                have c1 : w1.cell? ⟨wr.heap.size, 1, none⟩ = some (.int .i64 (fi : Int)) := by rw [← HFI.out]; exact OM.cell (m := y.m) (j := 1) HOW.out rfl
                have c2 : w1.cell? ⟨w.heap.size, fi, none⟩ = some (.bool ((ls.take k).any fun x => decide (x.m.fr = (fi : Int)))) := (HHW.out.cell HF9.out).1
                have c3 : w1.frozen? ⟨w.heap.size, fi, none⟩ = false := (HHW.out.cell HF9.out).2
                go_wp2_with fail
                go_roundw
                case rel =>
                 refine ⟨k + 1, by omega, by go_num, hid (fun j x hj hx => ?_), hid (((HBw1.out.trans (HS1.out.mono HBw1.out.size))).grown (grownSet w1 ⟨w.heap.size, fi, none⟩ (.bool true)) (Nat.le_trans HBw1.out.size HS1.out.size) (fun q hq => by injection hq with hq; subst hq; exact Nat.le_refl _)), hid ?_⟩
                 · by_cases hjk : j < k
                   · exact HI.out j x hjk hx
                   · obtain rfl : j = k := by omega
                     rw [HY.out] at hx
                     obtain rfl := Option.some.inj hx
                     exact okM_true HMB.out.symm (by rw [HHC.out]; exact HSM.out) (by rw [HFI.out]; exact HFN.out) (by rw [HFI.out]; exact HHD.out.symm)
                 · rw [List.take_add_one, HY.out]
                   exact HHW.out.set HF9.out HFI.out
                case measure => first | omega | (simp [RowKit.intOf]; omega)
              · have HE : Hid (okAll n ls = false) := hid (okAll_no HY.out (okM_false fun hh => by rw [HFI.out, ← HHD.out] at hh; cases hh.2.2.2))
                refine rh_start (S := fun W => Below W1.heap.size W1 W) (n := 24) (listed := #[false, false, false, false, false, false, false, false, false, false, false, false, false, false, false, false, false, false, false, false, false, false, false, false]) (by kernel_rfl) rfl rfl ?_
                have HS0 : Hid (Below W1.heap.size W1 W1.drew) := hid (belowDrew (Below.refl _ _))
                generalize W1.drew = wd at HS0 ⊢
                refine rh_load (i := 0) (o := ?o99) (cs := y.m.list) (T := 48) (x := ?x99) (b := ?b99) (q := ?q99) (listed' := ?l99) (a' := ?a99) ?hi99 (by kernel_rfl) (by kernel_rfl) (by kernel_rfl) ?hq99 ?hl99 ?hg99 ?ho99 ?hx99 ?hc99 Tryz.underlying48 rfl (infoM y.m) ?ha99 HS0.out ?hh99
                case hi99 => (simp only [List.getElem?_toArray, List.getElem?_cons_zero]; try rfl)
                case hq99 => exact fun _ _ _ h => h
                case hl99 => (simp only [List.setIfInBounds_toArray, List.set_cons_zero]; try rfl)
                case hg99 => rfl
                case ho99 => rfl
                case hx99 => rfl
                case hc99 => exact fun W hW => OM.range (heapB HO1.out hW HWL.out)
                case ha99 => (show Act.put _ _ (Value.agg y.m.arr) = _); (simp only [Act.put,gD,gE,gF]; try rfl)
                refine wpAnyH_ready (rs := [1]) (by kernel_rfl) (by simp) ?_
                refine rh_cons (i := 1) (o := ?o100) (listed' := ?l100) ?hi100 ?hl100 ?hg100 ?hh100 ?hs100
                case hi100 => (simp only [gA,gB,gC]; try rfl)
                case hl100 => (simp only [gD,gE,gF]; try rfl)
                case hg100 => rfl
                case hs100 => exact AllReadyH.nil
                intro K hK
                go_simp
                refine (HCM.out _ (HB1.out.trans (HS0.out.mono HB1.out.size))).mono ?_
                rintro z w1 ⟨rfl, hB⟩
                have HS1 := hid (HS0.out.trans (hB.mono HS0.out.size))
                clear hB
                refine hK.out _ _ HS1.out ?_
                clear hK K
                refine tkS 2 ?o101 ?v101 ?l101 ?a101 ?hi101 ?hq101 ?hl101 ?hw101 ?hv101 ?ha101 HS1.out ?hh101
                case hi101 => (simp only [gA,gB,gC]; try rfl)
                case hq101 => exact fun _ _ _ h => h
                case hl101 => (simp only [gD,gE,gF]; try rfl)
                case hw101 => rfl
                case hv101 =>
                 intro W hW
                 go_simp
                 try with_reducible rfl
                case ha101 => (simp only [Act.put,gD,gE,gF]; try rfl)
                refine tkS 3 ?o102 ?v102 ?l102 ?a102 ?hi102 ?hq102 ?hl102 ?hw102 ?hv102 ?ha102 HS1.out ?hh102
                case hi102 => (simp only [gA,gB,gC]; try rfl)
                case hq102 => exact fun _ _ _ h => h
                case hl102 => (simp only [gD,gE,gF]; try rfl)
                case hw102 => rfl
                case hv102 =>
                 intro W hW
                 go_simp
                 try with_reducible rfl
                case ha102 => (simp only [Act.put,gD,gE,gF]; try rfl)
                refine tkS 4 ?o103 ?v103 ?l103 ?a103 ?hi103 ?hq103 ?hl103 ?hw103 ?hv103 ?ha103 HS1.out ?hh103
                case hi103 => (simp only [gA,gB,gC]; try rfl)
                case hq103 => exact fun _ _ _ h => h
                case hl103 => (simp only [gD,gE,gF]; try rfl)
                case hw103 => rfl
                case hv103 =>
                 intro W hW
                 go_simp
                 try with_reducible rfl
                case ha103 => (simp only [Act.put,gD,gE,gF]; try rfl)
                refine tkS 5 ?o104 ?v104 ?l104 ?a104 ?hi104 ?hq104 ?hl104 ?hw104 ?hv104 ?ha104 HS1.out ?hh104
                case hi104 => (simp only [gA,gB,gC]; try rfl)
                case hq104 => exact fun _ _ _ h => h
                case hl104 => (simp only [gD,gE,gF]; try rfl)
                case hw104 => rfl
                case hv104 =>
                 intro W hW
                 have c0 : W.cell? ⟨wr.heap.size, 4, none⟩ = some (.int .i64 y.m.c.i) := (OM.cell (m := y.m) (j := 4) (heapB HO1.out hW HWL.out) rfl); have c1 : W.cell? ⟨wr.heap.size, 5, none⟩ = some (.int .i64 y.m.c.k) := (OM.cell (m := y.m) (j := 5) (heapB HO1.out hW HWL.out) rfl); have c2 : W.cell? ⟨wr.heap.size, 6, none⟩ = some (.int .i64 y.m.c.s) := (OM.cell (m := y.m) (j := 6) (heapB HO1.out hW HWL.out) rfl); have c3 : W.cell? ⟨wr.heap.size, 7, none⟩ = some (.int .i64 y.m.c.t) := (OM.cell (m := y.m) (j := 7) (heapB HO1.out hW HWL.out) rfl); have c4 : W.cell? ⟨wr.heap.size, 8, none⟩ = some (.int .i64 y.m.c.d) := (OM.cell (m := y.m) (j := 8) (heapB HO1.out hW HWL.out) rfl); have c5 : W.cell? ⟨wr.heap.size, 9, none⟩ = some (.int .i64 y.m.c.p) := (OM.cell (m := y.m) (j := 9) (heapB HO1.out hW HWL.out) rfl); have c6 : W.cell? ⟨wr.heap.size, 10, none⟩ = some (.int .i64 y.m.c.q) := (OM.cell (m := y.m) (j := 10) (heapB HO1.out hW HWL.out) rfl)
                 go_simp
                 try with_reducible rfl
                case ha104 => (simp only [Act.put,gD,gE,gF]; try rfl)
                refine tkS 6 ?o105 ?v105 ?l105 ?a105 ?hi105 ?hq105 ?hl105 ?hw105 ?hv105 ?ha105 HS1.out ?hh105
                case hi105 => (simp only [gA,gB,gC]; try rfl)
                case hq105 => exact fun _ _ _ h => h
                case hl105 => (simp only [gD,gE,gF]; try rfl)
                case hw105 => rfl
                case hv105 =>
                 intro W hW
                 have hm0 : 0 < m := by omega
                 go_simp
                 try with_reducible rfl
                case ha105 => (simp only [Act.put,gD,gE,gF]; try rfl)
                refine tkS 7 ?o106 ?v106 ?l106 ?a106 ?hi106 ?hq106 ?hl106 ?hw106 ?hv106 ?ha106 HS1.out ?hh106
                case hi106 => (simp only [gA,gB,gC]; try rfl)
                case hq106 => exact fun _ _ _ h => h
                case hl106 => (simp only [gD,gE,gF]; try rfl)
                case hw106 => rfl
                case hv106 =>
                 intro W hW
                 have hm0 : 0 < m := by omega
                 go_simp
                 try with_reducible rfl
                case ha106 => (simp only [Act.put,gD,gE,gF]; try rfl)
                refine tkS 8 ?o107 ?v107 ?l107 ?a107 ?hi107 ?hq107 ?hl107 ?hw107 ?hv107 ?ha107 HS1.out ?hh107
                case hi107 => (simp only [gA,gB,gC]; try rfl)
                case hq107 => exact fun _ _ _ h => h
                case hl107 => (simp only [gD,gE,gF]; try rfl)
                case hw107 => rfl
                case hv107 =>
                 intro W hW
                 have hm0 : 0 < m := by omega
                 go_simp
                 try with_reducible rfl
                case ha107 => (simp only [Act.put,gD,gE,gF]; try rfl)
                refine tkS 9 ?o108 ?v108 ?l108 ?a108 ?hi108 ?hq108 ?hl108 ?hw108 ?hv108 ?ha108 HS1.out ?hh108
                case hi108 => (simp only [gA,gB,gC]; try rfl)
                case hq108 => exact fun _ _ _ h => h
                case hl108 => (simp only [gD,gE,gF]; try rfl)
                case hw108 => rfl
                case hv108 =>
                 intro W hW
                 have c0 : W.cell? ⟨b, o + 4, none⟩ = some (.int .i64 f0.m.c.i) := (hW.cell (Nat.lt_of_lt_of_le HBX.out HB1.out.size)).trans ((HB1.out.cell HBX.out).trans (HC0.out 4 _ rfl)); have c1 : W.cell? ⟨b, o + 5, none⟩ = some (.int .i64 f0.m.c.k) := (hW.cell (Nat.lt_of_lt_of_le HBX.out HB1.out.size)).trans ((HB1.out.cell HBX.out).trans (HC0.out 5 _ rfl)); have c2 : W.cell? ⟨b, o + 6, none⟩ = some (.int .i64 f0.m.c.s) := (hW.cell (Nat.lt_of_lt_of_le HBX.out HB1.out.size)).trans ((HB1.out.cell HBX.out).trans (HC0.out 6 _ rfl)); have c3 : W.cell? ⟨b, o + 7, none⟩ = some (.int .i64 f0.m.c.t) := (hW.cell (Nat.lt_of_lt_of_le HBX.out HB1.out.size)).trans ((HB1.out.cell HBX.out).trans (HC0.out 7 _ rfl)); have c4 : W.cell? ⟨b, o + 8, none⟩ = some (.int .i64 f0.m.c.d) := (hW.cell (Nat.lt_of_lt_of_le HBX.out HB1.out.size)).trans ((HB1.out.cell HBX.out).trans (HC0.out 8 _ rfl)); have c5 : W.cell? ⟨b, o + 9, none⟩ = some (.int .i64 f0.m.c.p) := (hW.cell (Nat.lt_of_lt_of_le HBX.out HB1.out.size)).trans ((HB1.out.cell HBX.out).trans (HC0.out 9 _ rfl)); have c6 : W.cell? ⟨b, o + 10, none⟩ = some (.int .i64 f0.m.c.q) := (hW.cell (Nat.lt_of_lt_of_le HBX.out HB1.out.size)).trans ((HB1.out.cell HBX.out).trans (HC0.out 10 _ rfl))
                 go_simp
                 try with_reducible rfl
                case ha108 => (simp only [Act.put,gD,gE,gF]; try rfl)
                refine tkS 10 ?o109 ?v109 ?l109 ?a109 ?hi109 ?hq109 ?hl109 ?hw109 ?hv109 ?ha109 HS1.out ?hh109
                case hi109 => (simp only [gA,gB,gC]; try rfl)
                case hq109 => exact fun _ _ _ h => h
                case hl109 => (simp only [gD,gE,gF]; try rfl)
                case hw109 => rfl
                case hv109 =>
                 intro W hW
                 have hE := fun W => neqC HSM.out W; have hG := fun op p q W => guardC op p q y.m.c f0.m.c W; simp only [C7.v, cmV] at hE hG
                 go_simp
                 try with_reducible rfl
                case ha109 => (simp only [Act.put,gD,gE,gF]; try rfl)
                refine tkS 11 ?o110 ?v110 ?l110 ?a110 ?hi110 ?hq110 ?hl110 ?hw110 ?hv110 ?ha110 HS1.out ?hh110
                case hi110 => (simp only [gA,gB,gC]; try rfl)
                case hq110 => exact fun _ _ _ h => h
                case hl110 => (simp only [gD,gE,gF]; try rfl)
                case hw110 => rfl
                case hv110 =>
                 intro W hW
                 go_simp
                 try with_reducible rfl
                case ha110 => (simp only [Act.put,gD,gE,gF]; try rfl)
                refine tkS 12 ?o111 ?v111 ?l111 ?a111 ?hi111 ?hq111 ?hl111 ?hw111 ?hv111 ?ha111 HS1.out ?hh111
                case hi111 => (simp only [gA,gB,gC]; try rfl)
                case hq111 => exact fun _ _ _ h => h
                case hl111 => (simp only [gD,gE,gF]; try rfl)
                case hw111 => rfl
                case hv111 =>
                 intro W hW
                 go_simp
                 try with_reducible rfl
                case ha111 => (simp only [Act.put,gD,gE,gF]; try rfl)
                refine tkS 13 ?o112 ?v112 ?l112 ?a112 ?hi112 ?hq112 ?hl112 ?hw112 ?hv112 ?ha112 HS1.out ?hh112
                case hi112 => (simp only [gA,gB,gC]; try rfl)
                case hq112 => exact fun _ _ _ h => h
                case hl112 => (simp only [gD,gE,gF]; try rfl)
                case hw112 => rfl
                case hv112 =>
                 intro W hW
                 have c1 : W.cell? ⟨wr.heap.size, 1, none⟩ = some (.int .i64 (fi : Int)) := by rw [← HFI.out]; exact OM.cell (m := y.m) (j := 1) (heapB HO1.out hW HWL.out) rfl
                 go_simp
                 try with_reducible rfl
                case ha112 => (simp only [Act.put,gD,gE,gF]; try rfl)
                refine tkS 14 ?o113 ?v113 ?l113 ?a113 ?hi113 ?hq113 ?hl113 ?hw113 ?hv113 ?ha113 HS1.out ?hh113
                case hi113 => (simp only [gA,gB,gC]; try rfl)
                case hq113 => exact fun _ _ _ h => h
                case hl113 => (simp only [gD,gE,gF]; try rfl)
                case hw113 => rfl
                case hv113 =>
                 intro W hW
                 have c1 : W.cell? ⟨wr.heap.size, 1, none⟩ = some (.int .i64 (fi : Int)) := by rw [← HFI.out]; exact OM.cell (m := y.m) (j := 1) (heapB HO1.out hW HWL.out) rfl
                 go_simp
                 try with_reducible rfl
                case ha113 => (simp only [Act.put,gD,gE,gF]; try rfl)
                refine tkS 15 ?o114 ?v114 ?l114 ?a114 ?hi114 ?hq114 ?hl114 ?hw114 ?hv114 ?ha114 HS1.out ?hh114
                case hi114 => (simp only [gA,gB,gC]; try rfl)
                case hq114 => exact fun _ _ _ h => h
                case hl114 => (simp only [gD,gE,gF]; try rfl)
                case hw114 => rfl
                case hv114 =>
                 intro W hW
                 have c1 : W.cell? ⟨wr.heap.size, 1, none⟩ = some (.int .i64 (fi : Int)) := by rw [← HFI.out]; exact OM.cell (m := y.m) (j := 1) (heapB HO1.out hW HWL.out) rfl
                 go_simp
                 try with_reducible rfl
                case ha114 => (simp only [Act.put,gD,gE,gF]; try rfl)
                refine tkS 16 ?o115 ?v115 ?l115 ?a115 ?hi115 ?hq115 ?hl115 ?hw115 ?hv115 ?ha115 HS1.out ?hh115
                case hi115 => (simp only [gA,gB,gC]; try rfl)
                case hq115 => exact fun _ _ _ h => h
                case hl115 => (simp only [gD,gE,gF]; try rfl)
                case hw115 => rfl
                case hv115 =>
                 intro W hW
                 go_simp
                 try with_reducible rfl
                case ha115 => (simp only [Act.put,gD,gE,gF]; try rfl)
                refine tkS 17 ?o116 ?v116 ?l116 ?a116 ?hi116 ?hq116 ?hl116 ?hw116 ?hv116 ?ha116 HS1.out ?hh116
                case hi116 => (simp only [gA,gB,gC]; try rfl)
                case hq116 => exact fun _ _ _ h => h
                case hl116 => (simp only [gD,gE,gF]; try rfl)
                case hw116 => rfl
                case hv116 =>
                 intro W hW
                 go_simp
                 try with_reducible rfl
                case ha116 => (simp only [Act.put,gD,gE,gF]; try rfl)
                refine tkS 18 ?o117 ?v117 ?l117 ?a117 ?hi117 ?hq117 ?hl117 ?hw117 ?hv117 ?ha117 HS1.out ?hh117
                case hi117 => (simp only [gA,gB,gC]; try rfl)
                case hq117 => exact fun _ _ _ h => h
                case hl117 => (simp only [gD,gE,gF]; try rfl)
                case hw117 => rfl
                case hv117 =>
                 intro W hW
                 go_simp
                 try with_reducible rfl
                case ha117 => (simp only [Act.put,gD,gE,gF]; try rfl)
                refine tkS 19 ?o118 ?v118 ?l118 ?a118 ?hi118 ?hq118 ?hl118 ?hw118 ?hv118 ?ha118 HS1.out ?hh118
                case hi118 => (simp only [gA,gB,gC]; try rfl)
                case hq118 => exact fun _ _ _ h => h
                case hl118 => (simp only [gD,gE,gF]; try rfl)
                case hw118 => rfl
                case hv118 =>
                 intro W hW
                 have c1 : W.cell? ⟨wr.heap.size, 1, none⟩ = some (.int .i64 (fi : Int)) := by rw [← HFI.out]; exact OM.cell (m := y.m) (j := 1) (heapB HO1.out hW HWL.out) rfl
                 go_simp
                 try with_reducible rfl
                case ha118 => (simp only [Act.put,gD,gE,gF]; try rfl)
                refine tkS 20 ?o119 ?v119 ?l119 ?a119 ?hi119 ?hq119 ?hl119 ?hw119 ?hv119 ?ha119 HS1.out ?hh119
                case hi119 => (simp only [gA,gB,gC]; try rfl)
                case hq119 => exact fun _ _ _ h => h
                case hl119 => (simp only [gD,gE,gF]; try rfl)
                case hw119 => rfl
                case hv119 =>
                 intro W hW
                 have c1 : W.cell? ⟨wr.heap.size, 1, none⟩ = some (.int .i64 (fi : Int)) := by rw [← HFI.out]; exact OM.cell (m := y.m) (j := 1) (heapB HO1.out hW HWL.out) rfl
                 go_simp
                 try with_reducible rfl
                case ha119 => (simp only [Act.put,gD,gE,gF]; try rfl)
                refine tkS 21 ?o120 ?v120 ?l120 ?a120 ?hi120 ?hq120 ?hl120 ?hw120 ?hv120 ?ha120 HS1.out ?hh120
                case hi120 => (simp only [gA,gB,gC]; try rfl)
                case hq120 => exact fun _ _ _ h => h
                case hl120 => (simp only [gD,gE,gF]; try rfl)
                case hw120 => rfl
                case hv120 =>
                 intro W hW
                 go_simp
                 try with_reducible rfl
                case ha120 => (simp only [Act.put,gD,gE,gF]; try rfl)
                refine tkS 22 ?o121 ?v121 ?l121 ?a121 ?hi121 ?hq121 ?hl121 ?hw121 ?hv121 ?ha121 HS1.out ?hh121
                case hi121 => (simp only [gA,gB,gC]; try rfl)
                case hq121 => exact fun _ _ _ h => h
                case hl121 => (simp only [gD,gE,gF]; try rfl)
                case hw121 => rfl
                case hv121 =>
                 intro W hW
                 have c1 : W.cell? ⟨w.heap.size, fi, none⟩ = some (.bool true) := by rw [HHD.out]; exact ((HH1.out.on hW).cell HF9.out).1
                 go_simp
                 try with_reducible rfl
                case ha121 => (simp only [Act.put,gD,gE,gF]; try rfl)
                refine tkS 23 ?o122 ?v122 ?l122 ?a122 ?hi122 ?hq122 ?hl122 ?hw122 ?hv122 ?ha122 HS1.out ?hh122
                case hi122 => (simp only [gA,gB,gC]; try rfl)
                case hq122 => exact fun _ _ _ h => h
                case hl122 => (simp only [gD,gE,gF]; try rfl)
                case hw122 => rfl
                case hv122 =>
                 intro W hW
                 go_simp
                 try with_reducible rfl
                case ha122 => (simp only [Act.put,gD,gE,gF]; try rfl)
                refine wpAnyH_done (by kernel_rfl) ?_ _
                go_wp2_with fail
                go_ret
                exact ⟨by rw [HPB.out, HCD.out, HE.out]; rfl, HBw1.out.trans (HS1.out.mono HBw1.out.size)⟩
            · have hfn' : n ≤ (fi : Int) := by omega
              have HE : Hid (okAll n ls = false) := hid (okAll_no HY.out (okM_false fun hh => by rw [HFI.out] at hh; exact absurd hh.2.2.1 (by omega)))
              refine rh_start (S := fun W => Below W1.heap.size W1 W) (n := 24) (listed := #[false, false, false, false, false, false, false, false, false, false, false, false, false, false, false, false, false, false, false, false, false, false, false, false]) (by kernel_rfl) rfl rfl ?_
              have HS0 : Hid (Below W1.heap.size W1 W1.drew) := hid (belowDrew (Below.refl _ _))
              generalize W1.drew = wd at HS0 ⊢
              refine rh_load (i := 0) (o := ?o51) (cs := y.m.list) (T := 48) (x := ?x51) (b := ?b51) (q := ?q51) (listed' := ?l51) (a' := ?a51) ?hi51 (by kernel_rfl) (by kernel_rfl) (by kernel_rfl) ?hq51 ?hl51 ?hg51 ?ho51 ?hx51 ?hc51 Tryz.underlying48 rfl (infoM y.m) ?ha51 HS0.out ?hh51
              case hi51 => (simp only [List.getElem?_toArray, List.getElem?_cons_zero]; try rfl)
              case hq51 => exact fun _ _ _ h => h
              case hl51 => (simp only [List.setIfInBounds_toArray, List.set_cons_zero]; try rfl)
              case hg51 => rfl
              case ho51 => rfl
              case hx51 => rfl
              case hc51 => exact fun W hW => OM.range (heapB HO1.out hW HWL.out)
              case ha51 => (show Act.put _ _ (Value.agg y.m.arr) = _); (simp only [Act.put,gD,gE,gF]; try rfl)
              refine wpAnyH_ready (rs := [1]) (by kernel_rfl) (by simp) ?_
              refine rh_cons (i := 1) (o := ?o52) (listed' := ?l52) ?hi52 ?hl52 ?hg52 ?hh52 ?hs52
              case hi52 => (simp only [gA,gB,gC]; try rfl)
              case hl52 => (simp only [gD,gE,gF]; try rfl)
              case hg52 => rfl
              case hs52 => exact AllReadyH.nil
              intro K hK
              go_simp
              refine (HCM.out _ (HB1.out.trans (HS0.out.mono HB1.out.size))).mono ?_
              rintro z w1 ⟨rfl, hB⟩
              have HS1 := hid (HS0.out.trans (hB.mono HS0.out.size))
              clear hB
              refine hK.out _ _ HS1.out ?_
              clear hK K
              refine tkS 2 ?o53 ?v53 ?l53 ?a53 ?hi53 ?hq53 ?hl53 ?hw53 ?hv53 ?ha53 HS1.out ?hh53
              case hi53 => (simp only [gA,gB,gC]; try rfl)
              case hq53 => exact fun _ _ _ h => h
              case hl53 => (simp only [gD,gE,gF]; try rfl)
              case hw53 => rfl
              case hv53 =>
               intro W hW
               go_simp
               try with_reducible rfl
              case ha53 => (simp only [Act.put,gD,gE,gF]; try rfl)
              refine tkS 3 ?o54 ?v54 ?l54 ?a54 ?hi54 ?hq54 ?hl54 ?hw54 ?hv54 ?ha54 HS1.out ?hh54
              case hi54 => (simp only [gA,gB,gC]; try rfl)
              case hq54 => exact fun _ _ _ h => h
              case hl54 => (simp only [gD,gE,gF]; try rfl)
              case hw54 => rfl
              case hv54 =>
               intro W hW
               go_simp
               try with_reducible rfl
              case ha54 => (simp only [Act.put,gD,gE,gF]; try rfl)
              refine tkS 4 ?o55 ?v55 ?l55 ?a55 ?hi55 ?hq55 ?hl55 ?hw55 ?hv55 ?ha55 HS1.out ?hh55
              case hi55 => (simp only [gA,gB,gC]; try rfl)
              case hq55 => exact fun _ _ _ h => h
              case hl55 => (simp only [gD,gE,gF]; try rfl)
              case hw55 => rfl
              case hv55 =>
               intro W hW
               go_simp
               try with_reducible rfl
              case ha55 => (simp only [Act.put,gD,gE,gF]; try rfl)
              refine tkS 5 ?o56 ?v56 ?l56 ?a56 ?hi56 ?hq56 ?hl56 ?hw56 ?hv56 ?ha56 HS1.out ?hh56
              case hi56 => (simp only [gA,gB,gC]; try rfl)
              case hq56 => exact fun _ _ _ h => h
              case hl56 => (simp only [gD,gE,gF]; try rfl)
              case hw56 => rfl
              case hv56 =>
               intro W hW
               have c0 : W.cell? ⟨wr.heap.size, 4, none⟩ = some (.int .i64 y.m.c.i) := (OM.cell (m := y.m) (j := 4) (heapB HO1.out hW HWL.out) rfl); have c1 : W.cell? ⟨wr.heap.size, 5, none⟩ = some (.int .i64 y.m.c.k) := (OM.cell (m := y.m) (j := 5) (heapB HO1.out hW HWL.out) rfl); have c2 : W.cell? ⟨wr.heap.size, 6, none⟩ = some (.int .i64 y.m.c.s) := (OM.cell (m := y.m) (j := 6) (heapB HO1.out hW HWL.out) rfl); have c3 : W.cell? ⟨wr.heap.size, 7, none⟩ = some (.int .i64 y.m.c.t) := (OM.cell (m := y.m) (j := 7) (heapB HO1.out hW HWL.out) rfl); have c4 : W.cell? ⟨wr.heap.size, 8, none⟩ = some (.int .i64 y.m.c.d) := (OM.cell (m := y.m) (j := 8) (heapB HO1.out hW HWL.out) rfl); have c5 : W.cell? ⟨wr.heap.size, 9, none⟩ = some (.int .i64 y.m.c.p) := (OM.cell (m := y.m) (j := 9) (heapB HO1.out hW HWL.out) rfl); have c6 : W.cell? ⟨wr.heap.size, 10, none⟩ = some (.int .i64 y.m.c.q) := (OM.cell (m := y.m) (j := 10) (heapB HO1.out hW HWL.out) rfl)
               go_simp
               try with_reducible rfl
              case ha56 => (simp only [Act.put,gD,gE,gF]; try rfl)
              refine tkS 6 ?o57 ?v57 ?l57 ?a57 ?hi57 ?hq57 ?hl57 ?hw57 ?hv57 ?ha57 HS1.out ?hh57
              case hi57 => (simp only [gA,gB,gC]; try rfl)
              case hq57 => exact fun _ _ _ h => h
              case hl57 => (simp only [gD,gE,gF]; try rfl)
              case hw57 => rfl
              case hv57 =>
               intro W hW
               have hm0 : 0 < m := by omega
               go_simp
               try with_reducible rfl
              case ha57 => (simp only [Act.put,gD,gE,gF]; try rfl)
              refine tkS 7 ?o58 ?v58 ?l58 ?a58 ?hi58 ?hq58 ?hl58 ?hw58 ?hv58 ?ha58 HS1.out ?hh58
              case hi58 => (simp only [gA,gB,gC]; try rfl)
              case hq58 => exact fun _ _ _ h => h
              case hl58 => (simp only [gD,gE,gF]; try rfl)
              case hw58 => rfl
              case hv58 =>
               intro W hW
               have hm0 : 0 < m := by omega
               go_simp
               try with_reducible rfl
              case ha58 => (simp only [Act.put,gD,gE,gF]; try rfl)
              refine tkS 8 ?o59 ?v59 ?l59 ?a59 ?hi59 ?hq59 ?hl59 ?hw59 ?hv59 ?ha59 HS1.out ?hh59
              case hi59 => (simp only [gA,gB,gC]; try rfl)
              case hq59 => exact fun _ _ _ h => h
              case hl59 => (simp only [gD,gE,gF]; try rfl)
              case hw59 => rfl
              case hv59 =>
               intro W hW
               have hm0 : 0 < m := by omega
               go_simp
               try with_reducible rfl
              case ha59 => (simp only [Act.put,gD,gE,gF]; try rfl)
              refine tkS 9 ?o60 ?v60 ?l60 ?a60 ?hi60 ?hq60 ?hl60 ?hw60 ?hv60 ?ha60 HS1.out ?hh60
              case hi60 => (simp only [gA,gB,gC]; try rfl)
              case hq60 => exact fun _ _ _ h => h
              case hl60 => (simp only [gD,gE,gF]; try rfl)
              case hw60 => rfl
              case hv60 =>
               intro W hW
               have c0 : W.cell? ⟨b, o + 4, none⟩ = some (.int .i64 f0.m.c.i) := (hW.cell (Nat.lt_of_lt_of_le HBX.out HB1.out.size)).trans ((HB1.out.cell HBX.out).trans (HC0.out 4 _ rfl)); have c1 : W.cell? ⟨b, o + 5, none⟩ = some (.int .i64 f0.m.c.k) := (hW.cell (Nat.lt_of_lt_of_le HBX.out HB1.out.size)).trans ((HB1.out.cell HBX.out).trans (HC0.out 5 _ rfl)); have c2 : W.cell? ⟨b, o + 6, none⟩ = some (.int .i64 f0.m.c.s) := (hW.cell (Nat.lt_of_lt_of_le HBX.out HB1.out.size)).trans ((HB1.out.cell HBX.out).trans (HC0.out 6 _ rfl)); have c3 : W.cell? ⟨b, o + 7, none⟩ = some (.int .i64 f0.m.c.t) := (hW.cell (Nat.lt_of_lt_of_le HBX.out HB1.out.size)).trans ((HB1.out.cell HBX.out).trans (HC0.out 7 _ rfl)); have c4 : W.cell? ⟨b, o + 8, none⟩ = some (.int .i64 f0.m.c.d) := (hW.cell (Nat.lt_of_lt_of_le HBX.out HB1.out.size)).trans ((HB1.out.cell HBX.out).trans (HC0.out 8 _ rfl)); have c5 : W.cell? ⟨b, o + 9, none⟩ = some (.int .i64 f0.m.c.p) := (hW.cell (Nat.lt_of_lt_of_le HBX.out HB1.out.size)).trans ((HB1.out.cell HBX.out).trans (HC0.out 9 _ rfl)); have c6 : W.cell? ⟨b, o + 10, none⟩ = some (.int .i64 f0.m.c.q) := (hW.cell (Nat.lt_of_lt_of_le HBX.out HB1.out.size)).trans ((HB1.out.cell HBX.out).trans (HC0.out 10 _ rfl))
               go_simp
               try with_reducible rfl
              case ha60 => (simp only [Act.put,gD,gE,gF]; try rfl)
              refine tkS 10 ?o61 ?v61 ?l61 ?a61 ?hi61 ?hq61 ?hl61 ?hw61 ?hv61 ?ha61 HS1.out ?hh61
              case hi61 => (simp only [gA,gB,gC]; try rfl)
              case hq61 => exact fun _ _ _ h => h
              case hl61 => (simp only [gD,gE,gF]; try rfl)
              case hw61 => rfl
              case hv61 =>
               intro W hW
               have hE := fun W => neqC HSM.out W; have hG := fun op p q W => guardC op p q y.m.c f0.m.c W; simp only [C7.v, cmV] at hE hG
               go_simp
               try with_reducible rfl
              case ha61 => (simp only [Act.put,gD,gE,gF]; try rfl)
              refine tkS 11 ?o62 ?v62 ?l62 ?a62 ?hi62 ?hq62 ?hl62 ?hw62 ?hv62 ?ha62 HS1.out ?hh62
              case hi62 => (simp only [gA,gB,gC]; try rfl)
              case hq62 => exact fun _ _ _ h => h
              case hl62 => (simp only [gD,gE,gF]; try rfl)
              case hw62 => rfl
              case hv62 =>
               intro W hW
               go_simp
               try with_reducible rfl
              case ha62 => (simp only [Act.put,gD,gE,gF]; try rfl)
              refine tkS 12 ?o63 ?v63 ?l63 ?a63 ?hi63 ?hq63 ?hl63 ?hw63 ?hv63 ?ha63 HS1.out ?hh63
              case hi63 => (simp only [gA,gB,gC]; try rfl)
              case hq63 => exact fun _ _ _ h => h
              case hl63 => (simp only [gD,gE,gF]; try rfl)
              case hw63 => rfl
              case hv63 =>
               intro W hW
               go_simp
               try with_reducible rfl
              case ha63 => (simp only [Act.put,gD,gE,gF]; try rfl)
              refine tkS 13 ?o64 ?v64 ?l64 ?a64 ?hi64 ?hq64 ?hl64 ?hw64 ?hv64 ?ha64 HS1.out ?hh64
              case hi64 => (simp only [gA,gB,gC]; try rfl)
              case hq64 => exact fun _ _ _ h => h
              case hl64 => (simp only [gD,gE,gF]; try rfl)
              case hw64 => rfl
              case hv64 =>
               intro W hW
               have c1 : W.cell? ⟨wr.heap.size, 1, none⟩ = some (.int .i64 (fi : Int)) := by rw [← HFI.out]; exact OM.cell (m := y.m) (j := 1) (heapB HO1.out hW HWL.out) rfl
               go_simp
               try with_reducible rfl
              case ha64 => (simp only [Act.put,gD,gE,gF]; try rfl)
              refine tkS 14 ?o65 ?v65 ?l65 ?a65 ?hi65 ?hq65 ?hl65 ?hw65 ?hv65 ?ha65 HS1.out ?hh65
              case hi65 => (simp only [gA,gB,gC]; try rfl)
              case hq65 => exact fun _ _ _ h => h
              case hl65 => (simp only [gD,gE,gF]; try rfl)
              case hw65 => rfl
              case hv65 =>
               intro W hW
               have c1 : W.cell? ⟨wr.heap.size, 1, none⟩ = some (.int .i64 (fi : Int)) := by rw [← HFI.out]; exact OM.cell (m := y.m) (j := 1) (heapB HO1.out hW HWL.out) rfl
               go_simp
               try with_reducible rfl
              case ha65 => (simp only [Act.put,gD,gE,gF]; try rfl)
              refine tkS 15 ?o66 ?v66 ?l66 ?a66 ?hi66 ?hq66 ?hl66 ?hw66 ?hv66 ?ha66 HS1.out ?hh66
              case hi66 => (simp only [gA,gB,gC]; try rfl)
              case hq66 => exact fun _ _ _ h => h
              case hl66 => (simp only [gD,gE,gF]; try rfl)
              case hw66 => rfl
              case hv66 =>
               intro W hW
               have c1 : W.cell? ⟨wr.heap.size, 1, none⟩ = some (.int .i64 (fi : Int)) := by rw [← HFI.out]; exact OM.cell (m := y.m) (j := 1) (heapB HO1.out hW HWL.out) rfl
               go_simp
               try with_reducible rfl
              case ha66 => (simp only [Act.put,gD,gE,gF]; try rfl)
              refine tkS 16 ?o67 ?v67 ?l67 ?a67 ?hi67 ?hq67 ?hl67 ?hw67 ?hv67 ?ha67 HS1.out ?hh67
              case hi67 => (simp only [gA,gB,gC]; try rfl)
              case hq67 => exact fun _ _ _ h => h
              case hl67 => (simp only [gD,gE,gF]; try rfl)
              case hw67 => rfl
              case hv67 =>
               intro W hW
               go_simp
               try with_reducible rfl
              case ha67 => (simp only [Act.put,gD,gE,gF]; try rfl)
              refine tkS 17 ?o68 ?v68 ?l68 ?a68 ?hi68 ?hq68 ?hl68 ?hw68 ?hv68 ?ha68 HS1.out ?hh68
              case hi68 => (simp only [gA,gB,gC]; try rfl)
              case hq68 => exact fun _ _ _ h => h
              case hl68 => (simp only [gD,gE,gF]; try rfl)
              case hw68 => rfl
              case hv68 =>
               intro W hW
               go_simp
               try with_reducible rfl
              case ha68 => (simp only [Act.put,gD,gE,gF]; try rfl)
              refine tkS 18 ?o69 ?v69 ?l69 ?a69 ?hi69 ?hq69 ?hl69 ?hw69 ?hv69 ?ha69 HS1.out ?hh69
              case hi69 => (simp only [gA,gB,gC]; try rfl)
              case hq69 => exact fun _ _ _ h => h
              case hl69 => (simp only [gD,gE,gF]; try rfl)
              case hw69 => rfl
              case hv69 =>
               intro W hW
               go_simp
               try with_reducible rfl
              case ha69 => (simp only [Act.put,gD,gE,gF]; try rfl)
              refine tkK 19 ?o70 ?l70 ?a70 ?hi70 ?hq70 ?hl70 ?hw70 ?ha70 HS1.out ?hh70
              case hi70 => (simp only [gA,gB,gC]; try rfl)
              case hq70 => exact fun _ _ _ h => h
              case hl70 => (simp only [gD,gE,gF]; try rfl)
              case hw70 => rfl
              case ha70 => (simp only [Act.put,gD,gE,gF]; try rfl)
              refine tkK 20 ?o71 ?l71 ?a71 ?hi71 ?hq71 ?hl71 ?hw71 ?ha71 HS1.out ?hh71
              case hi71 => (simp only [gA,gB,gC]; try rfl)
              case hq71 => exact fun _ _ _ h => h
              case hl71 => (simp only [gD,gE,gF]; try rfl)
              case hw71 => rfl
              case ha71 => (simp only [Act.put,gD,gE,gF]; try rfl)
              refine tkK 21 ?o72 ?l72 ?a72 ?hi72 ?hq72 ?hl72 ?hw72 ?ha72 HS1.out ?hh72
              case hi72 => (simp only [gA,gB,gC]; try rfl)
              case hq72 => exact fun _ _ _ h => h
              case hl72 => (simp only [gD,gE,gF]; try rfl)
              case hw72 => rfl
              case ha72 => (simp only [Act.put,gD,gE,gF]; try rfl)
              refine tkK 22 ?o73 ?l73 ?a73 ?hi73 ?hq73 ?hl73 ?hw73 ?ha73 HS1.out ?hh73
              case hi73 => (simp only [gA,gB,gC]; try rfl)
              case hq73 => exact fun _ _ _ h => h
              case hl73 => (simp only [gD,gE,gF]; try rfl)
              case hw73 => rfl
              case ha73 => (simp only [Act.put,gD,gE,gF]; try rfl)
              refine tkS 23 ?o74 ?v74 ?l74 ?a74 ?hi74 ?hq74 ?hl74 ?hw74 ?hv74 ?ha74 HS1.out ?hh74
              case hi74 => (simp only [gA,gB,gC]; try rfl)
              case hq74 => exact fun _ _ _ h => h
              case hl74 => (simp only [gD,gE,gF]; try rfl)
              case hw74 => rfl
              case hv74 =>
               intro W hW
               go_simp
               try with_reducible rfl
              case ha74 => (simp only [Act.put,gD,gE,gF]; try rfl)
              refine wpAnyH_done (by kernel_rfl) ?_ _
              go_wp2_with fail
              go_ret
              exact ⟨by rw [HPB.out, HCD.out, HE.out]; rfl, HBw1.out.trans (HS1.out.mono HBw1.out.size)⟩
      · have hlti : ¬ ((k : Int) < m) := by omega
        have hkm : k = m := by omega
        have HE : Hid (okAll n ls = true) := hid (okAll_true.2 fun j x hx => HI.out j x (by have := (List.getElem?_eq_some_iff.1 hx).1; rw [hkm, HN.out]; exact this) hx)
        clear hkm
        have hCB := cBallots (HSL.out.on HB.out) (fun x hx => (HA.out x hx).on HB.out) HLL.out
        go_wp2_with (go_at_call 120; refine hCB.mono ?_; rintro e w2 ⟨rfl, hB⟩; have HB2 := hid hB; clear hB)
        go_ret
        exact ⟨by rw [HPB.out, HCD.out, HE.out]; rfl, HB.out.trans (HB2.out.mono HB.out.size)⟩
   · have hcn : (m : Int) < cl := by omega
     have HCD : Hid (decide (cl ≤ (m : Int)) = false) := hid (decide_eq_false hcm)
     clear hcm
     go_wp2_with (first | (go_at_call 22; refine (hR _).mono ?_; rintro e w' ⟨rfl, rfl⟩) | (go_at_call 26; refine (hC _).mono ?_; rintro e w' ⟨rfl, rfl⟩) | fail)
     go_ret
     exact ⟨by rw [HPB.out, HCD.out]; rfl, Below.refl _ _⟩
end Go.Proofs.YtplodoindppleaaGreat
