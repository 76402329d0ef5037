import Derived.Test.YtplodoindppleaaGreatLCloseZm
import Derived.Test.YtplodoindppleaaGreatLKeepZm
namespace Go.Proofs.YtplodoindppleaaGreat
set_option linter.unusedVariables false
open Go.RowKit
open Go.Lib (hid)
theorem votes_an (x : Ax) : votes x.att = (saidM [1] x.rs).countP fun m => m.m.fl := by
 unfold votes
 rw [okL_an, List.countP_map]; rfl
theorem rs_len (x : Ax) : x.att.rs.length = x.rs.length := by show (x.rs.map Ms.an).length = _; rw [List.length_map]
theorem fa_bds {N : Int} (h : 3 ≤ N ∧ N ≤ 9) : 0 ≤ faI N ∧ faI N ≤ N := by unfold faI; rw [if_pos h]; omega
theorem cl_bds {N : Int} (h : 3 ≤ N ∧ N ≤ 9) : 0 ≤ clI N ∧ clI N ≤ N := by unfold clI; rw [if_pos h]; omega
theorem votes_le (x : Ax) : votes x.att ≤ x.rs.length := by
 rw [votes_an]
 exact Nat.le_trans List.countP_le_length (saidM_len _ _)
theorem Ap.rvn {w : World} {B p : Nat} {x : Ax} (h : Ap w B p x) : x.rv.n = x.rs.length := by
 obtain ⟨g, c, n, e, hn⟩ := OwnG.asSlice h.ow
 injection e with _ e2 _
 rw [e2, hn]; unfold mgs; rw [List.length_map]
set_option maxHeartbeats 8000000 in
set_option maxRecDepth 100000 in
theorem cAsked {w : World} {B q b n p : Nat} {nd N : Int} {f : Int → Option Nat} {x : Ax} (hL : Lq w B q b n nd N f) (hA : Ap w B p x) (hN : 3 ≤ N ∧ N ≤ 9) (hB : B ≤ w.heap.size) (hz : Sz 38 x) : Calls Tryz.prog 68 #[ptr q, ptr p] w (ActP w B q b n nd N f p x (askedF nd N x.att)) := by
 have HL := hid hL
 have HA := hid hA
 have HZ := hid hz
 have HNN := hid hN
 have HBB := hid hB
 have hvt := cVotes hA (by have := hz.len; omega)
 rw [← votes_an] at hvt
 unfold askedF
 rw [rs_len]
 obtain ⟨fa, hfa⟩ : ∃ z, z = faI N := ⟨_, rfl⟩
 have hF := fun W => sFast_any N W
 have hfb := fa_bds hN
 rw [← hfa] at hF hfb ⊢
 obtain ⟨cl, hcl⟩ : ∃ z, z = clI N := ⟨_, rfl⟩
 have hC := fun W => sClassic_any N W
 rw [← hcl] at hC ⊢
 obtain ⟨rl, hrl⟩ : ∃ z, z = x.rs.length := ⟨_, rfl⟩
 have HRL := hid hrl
 have hrb : rl ≤ 38 := by have := hz.len; omega
 have hvl := votes_le x
 rw [← hrl] at hvl ⊢
 obtain ⟨vo, hvo⟩ : ∃ z, z = votes x.att := ⟨_, rfl⟩
 rw [← hvo] at hvt hvl ⊢
 have HVO := hid hvo
 clear hfa hcl hrl hvo hvt hL hA hz hB
 by_cases h1 : fa ≤ (vo : Int)
 · as_aux_lemma =>
    rw [if_pos h1]
    go_enter Tryz.func68, Tryz.ntmps68
    go_upto_region 1 with fail
    refine rh_start (S := fun W => Below w.heap.size w W) (n := 9) (listed := #[false, false, false, false, false, false, false, false, false]) (by kernel_rfl) rfl rfl ?_
    have HS0 : Hid (Below w.heap.size w w.drew) := hid (belowDrew (Below.refl _ w))
    have hvd := cVotes (HA.out.on HS0.out) (by have := HZ.out.len; omega)
    rw [← votes_an, ← HVO.out] at hvd
    generalize w.drew = wd at HS0 hvd ⊢
    refine tkS 0 ?o1 ?v1 ?l1 ?a1 ?hi1 ?hq1 ?hl1 ?hw1 ?hv1 ?ha1 HS0.out ?hh1
    case hi1 => (simp only [List.getElem?_toArray, List.getElem?_cons_zero]; try rfl)
    case hq1 => exact fun _ _ _ h => h
    case hl1 => (simp only [List.setIfInBounds_toArray, List.set_cons_zero]; try rfl)
    case hw1 => rfl
    case hv1 =>
     intro W hW
     go_simp
     try with_reducible rfl
    case ha1 => (simp only [Act.put,gD,gE,gF]; try rfl)
    refine tkS 2 ?o2 ?v2 ?l2 ?a2 ?hi2 ?hq2 ?hl2 ?hw2 ?hv2 ?ha2 HS0.out ?hh2
    case hi2 => (simp only [gA,gB,gC]; try rfl)
    case hq2 => exact fun _ _ _ h => h
    case hl2 => (simp only [gD,gE,gF]; try rfl)
    case hw2 => rfl
    case hv2 =>
     intro W hW
     go_simp
     try with_reducible rfl
    case ha2 => (simp only [Act.put,gD,gE,gF]; try rfl)
    refine tkS 3 ?o3 ?v3 ?l3 ?a3 ?hi3 ?hq3 ?hl3 ?hw3 ?hv3 ?ha3 HS0.out ?hh3
    case hi3 => (simp only [gA,gB,gC]; try rfl)
    case hq3 => exact fun _ _ _ h => h
    case hl3 => (simp only [gD,gE,gF]; try rfl)
    case hw3 => rfl
    case hv3 =>
     intro W hW
     go_simp
     try with_reducible rfl
    case ha3 => (simp only [Act.put,gD,gE,gF]; try rfl)
    refine tkS 4 ?o4 ?v4 ?l4 ?a4 ?hi4 ?hq4 ?hl4 ?hw4 ?hv4 ?ha4 HS0.out ?hh4
    case hi4 => (simp only [gA,gB,gC]; try rfl)
    case hq4 => exact fun _ _ _ h => h
    case hl4 => (simp only [gD,gE,gF]; try rfl)
    case hw4 => rfl
    case hv4 =>
     intro W hW
     go_simp
     try with_reducible rfl
    case ha4 => (simp only [Act.put,gD,gE,gF]; try rfl)
    refine tkS 5 ?o5 ?v5 ?l5 ?a5 ?hi5 ?hq5 ?hl5 ?hw5 ?hv5 ?ha5 HS0.out ?hh5
    case hi5 => (simp only [gA,gB,gC]; try rfl)
    case hq5 => exact fun _ _ _ h => h
    case hl5 => (simp only [gD,gE,gF]; try rfl)
    case hw5 => rfl
    case hv5 =>
     intro W hW
     obtain ⟨k0, k1, k2⟩ := (HL.out.on hW).cells
     go_simp
     try with_reducible rfl
    case ha5 => (simp only [Act.put,gD,gE,gF]; try rfl)
    refine wpAnyH_ready (rs := [1]) (by kernel_rfl) (by simp) ?_
    refine rh_cons (i := 1) (o := ?o6) (listed' := ?l6) ?hi6 ?hl6 ?hg6 ?hh6 ?hs6
    case hi6 => (simp only [gA,gB,gC]; try rfl)
    case hl6 => (simp only [gD,gE,gF]; try rfl)
    case hg6 => rfl
    case hs6 => exact AllReadyH.nil
    intro K hK
    go_simp
    refine hvd.mono ?_
    rintro z w1 ⟨rfl, hb⟩
    have HS1 : Hid (Below w.heap.size w w1) := hid (HS0.out.trans (hb.mono HS0.out.size))
    clear hb hvd
    refine hK.out _ _ HS1.out ?_
    clear hK K
    refine wpAnyH_ready (rs := [6]) (by kernel_rfl) (by simp) ?_
    refine rh_cons (i := 6) (o := ?o7) (listed' := ?l7) ?hi7 ?hl7 ?hg7 ?hh7 ?hs7
    case hi7 => (simp only [gA,gB,gC]; try rfl)
    case hl7 => (simp only [gD,gE,gF]; try rfl)
    case hg7 => rfl
    case hs7 => exact AllReadyH.nil
    intro K hK
    go_simp
    refine (hF _).mono ?_
    rintro z w2 ⟨rfl, rfl⟩
    refine hK.out _ _ HS1.out ?_
    clear hK K
    refine tkS 7 ?o8 ?v8 ?l8 ?a8 ?hi8 ?hq8 ?hl8 ?hw8 ?hv8 ?ha8 HS1.out ?hh8
    case hi8 => (simp only [gA,gB,gC]; try rfl)
    case hq8 => exact fun _ _ _ h => h
    case hl8 => (simp only [gD,gE,gF]; try rfl)
    case hw8 => rfl
    case hv8 =>
     intro W hW
     go_simp
     try with_reducible rfl
    case ha8 => (simp only [Act.put,gD,gE,gF]; try rfl)
    refine tkS 8 ?o9 ?v9 ?l9 ?a9 ?hi9 ?hq9 ?hl9 ?hw9 ?hv9 ?ha9 HS1.out ?hh9
    case hi9 => (simp only [gA,gB,gC]; try rfl)
    case hq9 => exact fun _ _ _ h => h
    case hl9 => (simp only [gD,gE,gF]; try rfl)
    case hw9 => rfl
    case hv9 =>
     intro W hW
     go_simp
     try with_reducible rfl
    case ha9 => (simp only [Act.put,gD,gE,gF]; try rfl)
    refine wpAnyH_done (by kernel_rfl) ?_ _
    have HL1 := hid (HL.out.on HS1.out)
    have HA1 := hid (HA.out.on HS1.out)
    have hgb : decide (fa ≤ (vo : Int)) = true := decide_eq_true h1
    have hfi := cFinish HL1.out HA1.out HNN.out (Nat.le_trans HBB.out HS1.out.size) HZ.out.wf (vt := x.vt) HA1.out.vs HZ.out.vl
    go_wp2_with (first
     | ((with_reducible refine loadVl (x := ?vx10) (b := p) (o := 9) x.vt x.vp ?vg10 ?vo10 ?vxx10 ?vc10 ?_); (case vg10 => rfl); (case vo10 => rfl); (case vxx10 => rfl); (case vc10 => exact HA1.out.ob.valR))
     | (go_at_call 29; refine hfi.mono ?_; intro e w6 h2; have H2 := hid h2; obtain ⟨v, ls, rfl, h3⟩ := h2; have H3 := hid h3; clear h3 hfi)
     | fail)
    go_ret
    exact ActP.from (x := x) H2.out (Tch.ofBelow HS1.out) rfl (fun k hk => .inl hk)
 · by_cases h2 : N - fa < (rl : Int) - (vo : Int)
   · by_cases h3 : cl ≤ (rl : Int)
     · as_aux_lemma =>
        rw [if_neg h1, if_pos ⟨h2, h3⟩]
        go_enter Tryz.func68, Tryz.ntmps68
        go_upto_region 1 with fail
        refine rh_start (S := fun W => Below w.heap.size w W) (n := 9) (listed := #[false, false, false, false, false, false, false, false, false]) (by kernel_rfl) rfl rfl ?_
        have HS0 : Hid (Below w.heap.size w w.drew) := hid (belowDrew (Below.refl _ w))
        have hvd := cVotes (HA.out.on HS0.out) (by have := HZ.out.len; omega)
        rw [← votes_an, ← HVO.out] at hvd
        generalize w.drew = wd at HS0 hvd ⊢
        refine tkS 0 ?o11 ?v11 ?l11 ?a11 ?hi11 ?hq11 ?hl11 ?hw11 ?hv11 ?ha11 HS0.out ?hh11
        case hi11 => (simp only [List.getElem?_toArray, List.getElem?_cons_zero]; try rfl)
        case hq11 => exact fun _ _ _ h => h
        case hl11 => (simp only [List.setIfInBounds_toArray, List.set_cons_zero]; try rfl)
        case hw11 => rfl
        case hv11 =>
         intro W hW
         go_simp
         try with_reducible rfl
        case ha11 => (simp only [Act.put,gD,gE,gF]; try rfl)
        refine tkS 2 ?o12 ?v12 ?l12 ?a12 ?hi12 ?hq12 ?hl12 ?hw12 ?hv12 ?ha12 HS0.out ?hh12
        case hi12 => (simp only [gA,gB,gC]; try rfl)
        case hq12 => exact fun _ _ _ h => h
        case hl12 => (simp only [gD,gE,gF]; try rfl)
        case hw12 => rfl
        case hv12 =>
         intro W hW
         go_simp
         try with_reducible rfl
        case ha12 => (simp only [Act.put,gD,gE,gF]; try rfl)
        refine tkS 3 ?o13 ?v13 ?l13 ?a13 ?hi13 ?hq13 ?hl13 ?hw13 ?hv13 ?ha13 HS0.out ?hh13
        case hi13 => (simp only [gA,gB,gC]; try rfl)
        case hq13 => exact fun _ _ _ h => h
        case hl13 => (simp only [gD,gE,gF]; try rfl)
        case hw13 => rfl
        case hv13 =>
         intro W hW
         go_simp
         try with_reducible rfl
        case ha13 => (simp only [Act.put,gD,gE,gF]; try rfl)
        refine tkS 4 ?o14 ?v14 ?l14 ?a14 ?hi14 ?hq14 ?hl14 ?hw14 ?hv14 ?ha14 HS0.out ?hh14
        case hi14 => (simp only [gA,gB,gC]; try rfl)
        case hq14 => exact fun _ _ _ h => h
        case hl14 => (simp only [gD,gE,gF]; try rfl)
        case hw14 => rfl
        case hv14 =>
         intro W hW
         go_simp
         try with_reducible rfl
        case ha14 => (simp only [Act.put,gD,gE,gF]; try rfl)
        refine tkS 5 ?o15 ?v15 ?l15 ?a15 ?hi15 ?hq15 ?hl15 ?hw15 ?hv15 ?ha15 HS0.out ?hh15
        case hi15 => (simp only [gA,gB,gC]; try rfl)
        case hq15 => exact fun _ _ _ h => h
        case hl15 => (simp only [gD,gE,gF]; try rfl)
        case hw15 => rfl
        case hv15 =>
         intro W hW
         obtain ⟨k0, k1, k2⟩ := (HL.out.on hW).cells
         go_simp
         try with_reducible rfl
        case ha15 => (simp only [Act.put,gD,gE,gF]; try rfl)
        refine wpAnyH_ready (rs := [1]) (by kernel_rfl) (by simp) ?_
        refine rh_cons (i := 1) (o := ?o16) (listed' := ?l16) ?hi16 ?hl16 ?hg16 ?hh16 ?hs16
        case hi16 => (simp only [gA,gB,gC]; try rfl)
        case hl16 => (simp only [gD,gE,gF]; try rfl)
        case hg16 => rfl
        case hs16 => exact AllReadyH.nil
        intro K hK
        go_simp
        refine hvd.mono ?_
        rintro z w1 ⟨rfl, hb⟩
        have HS1 : Hid (Below w.heap.size w w1) := hid (HS0.out.trans (hb.mono HS0.out.size))
        clear hb hvd
        refine hK.out _ _ HS1.out ?_
        clear hK K
        refine wpAnyH_ready (rs := [6]) (by kernel_rfl) (by simp) ?_
        refine rh_cons (i := 6) (o := ?o17) (listed' := ?l17) ?hi17 ?hl17 ?hg17 ?hh17 ?hs17
        case hi17 => (simp only [gA,gB,gC]; try rfl)
        case hl17 => (simp only [gD,gE,gF]; try rfl)
        case hg17 => rfl
        case hs17 => exact AllReadyH.nil
        intro K hK
        go_simp
        refine (hF _).mono ?_
        rintro z w2 ⟨rfl, rfl⟩
        refine hK.out _ _ HS1.out ?_
        clear hK K
        refine tkS 7 ?o18 ?v18 ?l18 ?a18 ?hi18 ?hq18 ?hl18 ?hw18 ?hv18 ?ha18 HS1.out ?hh18
        case hi18 => (simp only [gA,gB,gC]; try rfl)
        case hq18 => exact fun _ _ _ h => h
        case hl18 => (simp only [gD,gE,gF]; try rfl)
        case hw18 => rfl
        case hv18 =>
         intro W hW
         go_simp
         try with_reducible rfl
        case ha18 => (simp only [Act.put,gD,gE,gF]; try rfl)
        refine tkS 8 ?o19 ?v19 ?l19 ?a19 ?hi19 ?hq19 ?hl19 ?hw19 ?hv19 ?ha19 HS1.out ?hh19
        case hi19 => (simp only [gA,gB,gC]; try rfl)
        case hq19 => exact fun _ _ _ h => h
        case hl19 => (simp only [gD,gE,gF]; try rfl)
        case hw19 => rfl
        case hv19 =>
         intro W hW
         go_simp
         try with_reducible rfl
        case ha19 => (simp only [Act.put,gD,gE,gF]; try rfl)
        refine wpAnyH_done (by kernel_rfl) ?_ _
        have HL1 := hid (HL.out.on HS1.out)
        have HA1 := hid (HA.out.on HS1.out)
        have hgb : decide (fa ≤ (vo : Int)) = false := decide_eq_false h1
        obtain ⟨k0, k1, k2⟩ := HL1.out.cells
        have k12 := HA1.out.cells.2.2.2.2.2.1
        rw [HA1.out.rvn, ← HRL.out] at k12
        have hN1 := HNN.out.1
        have hN2 := HNN.out.2
        go_upto_region 4 with fail
        have hg2 : decide (N - fa < (rl : Int) - (vo : Int)) = true := decide_eq_true h2
        have hg3 : decide (cl ≤ (rl : Int)) = true := decide_eq_true h3
        go_quiet ((first | (go_at_call 26; with_reducible exact quietS (hC _))))
        rename_i nq
        have HS3 : Hid (Below w.heap.size w (w1.drewN nq)) := hid (Below.drewL HS1.out nq)
        have HL3 := hid (HL.out.on HS3.out)
        have HA3 := hid (HA.out.on HS3.out)
        generalize w1.drewN nq = w3 at HS3 HL3 HA3 ⊢
        have hsl := cSlowly HL3.out HA3.out HNN.out (Nat.le_trans HBB.out HS3.out.size) HZ.out
        go_wp2_with (first
         | (go_at_call 27; refine hsl.mono ?_; intro e w6 h2; have H2 := hid h2; obtain ⟨v, ls, rfl, h3⟩ := h2; have H3 := hid h3; clear h3 hsl)
         | fail)
        go_ret
        exact ActP.from (x := x) H2.out (Tch.ofBelow HS3.out) rfl (fun k hk => .inl hk)
     · as_aux_lemma =>
        rw [if_neg h1, if_neg (fun h => h3 h.2)]
        go_enter Tryz.func68, Tryz.ntmps68
        go_upto_region 1 with fail
        refine rh_start (S := fun W => Below w.heap.size w W) (n := 9) (listed := #[false, false, false, false, false, false, false, false, false]) (by kernel_rfl) rfl rfl ?_
        have HS0 : Hid (Below w.heap.size w w.drew) := hid (belowDrew (Below.refl _ w))
        have hvd := cVotes (HA.out.on HS0.out) (by have := HZ.out.len; omega)
        rw [← votes_an, ← HVO.out] at hvd
        generalize w.drew = wd at HS0 hvd ⊢
        refine tkS 0 ?o20 ?v20 ?l20 ?a20 ?hi20 ?hq20 ?hl20 ?hw20 ?hv20 ?ha20 HS0.out ?hh20
        case hi20 => (simp only [List.getElem?_toArray, List.getElem?_cons_zero]; try rfl)
        case hq20 => exact fun _ _ _ h => h
        case hl20 => (simp only [List.setIfInBounds_toArray, List.set_cons_zero]; try rfl)
        case hw20 => rfl
        case hv20 =>
         intro W hW
         go_simp
         try with_reducible rfl
        case ha20 => (simp only [Act.put,gD,gE,gF]; try rfl)
        refine tkS 2 ?o21 ?v21 ?l21 ?a21 ?hi21 ?hq21 ?hl21 ?hw21 ?hv21 ?ha21 HS0.out ?hh21
        case hi21 => (simp only [gA,gB,gC]; try rfl)
        case hq21 => exact fun _ _ _ h => h
        case hl21 => (simp only [gD,gE,gF]; try rfl)
        case hw21 => rfl
        case hv21 =>
         intro W hW
         go_simp
         try with_reducible rfl
        case ha21 => (simp only [Act.put,gD,gE,gF]; try rfl)
        refine tkS 3 ?o22 ?v22 ?l22 ?a22 ?hi22 ?hq22 ?hl22 ?hw22 ?hv22 ?ha22 HS0.out ?hh22
        case hi22 => (simp only [gA,gB,gC]; try rfl)
        case hq22 => exact fun _ _ _ h => h
        case hl22 => (simp only [gD,gE,gF]; try rfl)
        case hw22 => rfl
        case hv22 =>
         intro W hW
         go_simp
         try with_reducible rfl
        case ha22 => (simp only [Act.put,gD,gE,gF]; try rfl)
        refine tkS 4 ?o23 ?v23 ?l23 ?a23 ?hi23 ?hq23 ?hl23 ?hw23 ?hv23 ?ha23 HS0.out ?hh23
        case hi23 => (simp only [gA,gB,gC]; try rfl)
        case hq23 => exact fun _ _ _ h => h
        case hl23 => (simp only [gD,gE,gF]; try rfl)
        case hw23 => rfl
        case hv23 =>
         intro W hW
         go_simp
         try with_reducible rfl
        case ha23 => (simp only [Act.put,gD,gE,gF]; try rfl)
        refine tkS 5 ?o24 ?v24 ?l24 ?a24 ?hi24 ?hq24 ?hl24 ?hw24 ?hv24 ?ha24 HS0.out ?hh24
        case hi24 => (simp only [gA,gB,gC]; try rfl)
        case hq24 => exact fun _ _ _ h => h
        case hl24 => (simp only [gD,gE,gF]; try rfl)
        case hw24 => rfl
        case hv24 =>
         intro W hW
         obtain ⟨k0, k1, k2⟩ := (HL.out.on hW).cells
         go_simp
         try with_reducible rfl
        case ha24 => (simp only [Act.put,gD,gE,gF]; try rfl)
        refine wpAnyH_ready (rs := [1]) (by kernel_rfl) (by simp) ?_
        refine rh_cons (i := 1) (o := ?o25) (listed' := ?l25) ?hi25 ?hl25 ?hg25 ?hh25 ?hs25
        case hi25 => (simp only [gA,gB,gC]; try rfl)
        case hl25 => (simp only [gD,gE,gF]; try rfl)
        case hg25 => rfl
        case hs25 => exact AllReadyH.nil
        intro K hK
        go_simp
        refine hvd.mono ?_
        rintro z w1 ⟨rfl, hb⟩
        have HS1 : Hid (Below w.heap.size w w1) := hid (HS0.out.trans (hb.mono HS0.out.size))
        clear hb hvd
        refine hK.out _ _ HS1.out ?_
        clear hK K
        refine wpAnyH_ready (rs := [6]) (by kernel_rfl) (by simp) ?_
        refine rh_cons (i := 6) (o := ?o26) (listed' := ?l26) ?hi26 ?hl26 ?hg26 ?hh26 ?hs26
        case hi26 => (simp only [gA,gB,gC]; try rfl)
        case hl26 => (simp only [gD,gE,gF]; try rfl)
        case hg26 => rfl
        case hs26 => exact AllReadyH.nil
        intro K hK
        go_simp
        refine (hF _).mono ?_
        rintro z w2 ⟨rfl, rfl⟩
        refine hK.out _ _ HS1.out ?_
        clear hK K
        refine tkS 7 ?o27 ?v27 ?l27 ?a27 ?hi27 ?hq27 ?hl27 ?hw27 ?hv27 ?ha27 HS1.out ?hh27
        case hi27 => (simp only [gA,gB,gC]; try rfl)
        case hq27 => exact fun _ _ _ h => h
        case hl27 => (simp only [gD,gE,gF]; try rfl)
        case hw27 => rfl
        case hv27 =>
         intro W hW
         go_simp
         try with_reducible rfl
        case ha27 => (simp only [Act.put,gD,gE,gF]; try rfl)
        refine tkS 8 ?o28 ?v28 ?l28 ?a28 ?hi28 ?hq28 ?hl28 ?hw28 ?hv28 ?ha28 HS1.out ?hh28
        case hi28 => (simp only [gA,gB,gC]; try rfl)
        case hq28 => exact fun _ _ _ h => h
        case hl28 => (simp only [gD,gE,gF]; try rfl)
        case hw28 => rfl
        case hv28 =>
         intro W hW
         go_simp
         try with_reducible rfl
        case ha28 => (simp only [Act.put,gD,gE,gF]; try rfl)
        refine wpAnyH_done (by kernel_rfl) ?_ _
        have HL1 := hid (HL.out.on HS1.out)
        have HA1 := hid (HA.out.on HS1.out)
        have hgb : decide (fa ≤ (vo : Int)) = false := decide_eq_false h1
        obtain ⟨k0, k1, k2⟩ := HL1.out.cells
        have k12 := HA1.out.cells.2.2.2.2.2.1
        rw [HA1.out.rvn, ← HRL.out] at k12
        have hN1 := HNN.out.1
        have hN2 := HNN.out.2
        go_upto_region 4 with fail
        have hg2 : decide (N - fa < (rl : Int) - (vo : Int)) = true := decide_eq_true h2
        have hg3 : decide (cl ≤ (rl : Int)) = false := decide_eq_false h3
        go_quiet ((first | (go_at_call 26; with_reducible exact quietS (hC _))))
        rename_i nq
        have HS3 : Hid (Below w.heap.size w (w1.drewN nq)) := hid (Below.drewL HS1.out nq)
        have HL3 := hid (HL.out.on HS3.out)
        have HA3 := hid (HA.out.on HS3.out)
        generalize w1.drewN nq = w3 at HS3 HL3 HA3 ⊢
        go_wp2_with fail
        go_ret
        exact ActP.still HL.out HA.out HS3.out
   · as_aux_lemma =>
      rw [if_neg h1, if_neg (fun h => h2 h.1)]
      go_enter Tryz.func68, Tryz.ntmps68
      go_upto_region 1 with fail
      refine rh_start (S := fun W => Below w.heap.size w W) (n := 9) (listed := #[false, false, false, false, false, false, false, false, false]) (by kernel_rfl) rfl rfl ?_
      have HS0 : Hid (Below w.heap.size w w.drew) := hid (belowDrew (Below.refl _ w))
      have hvd := cVotes (HA.out.on HS0.out) (by have := HZ.out.len; omega)
      rw [← votes_an, ← HVO.out] at hvd
      generalize w.drew = wd at HS0 hvd ⊢
      refine tkS 0 ?o29 ?v29 ?l29 ?a29 ?hi29 ?hq29 ?hl29 ?hw29 ?hv29 ?ha29 HS0.out ?hh29
      case hi29 => (simp only [List.getElem?_toArray, List.getElem?_cons_zero]; try rfl)
      case hq29 => exact fun _ _ _ h => h
      case hl29 => (simp only [List.setIfInBounds_toArray, List.set_cons_zero]; try rfl)
      case hw29 => rfl
      case hv29 =>
       intro W hW
       go_simp
       try with_reducible rfl
      case ha29 => (simp only [Act.put,gD,gE,gF]; try rfl)
      refine tkS 2 ?o30 ?v30 ?l30 ?a30 ?hi30 ?hq30 ?hl30 ?hw30 ?hv30 ?ha30 HS0.out ?hh30
      case hi30 => (simp only [gA,gB,gC]; try rfl)
      case hq30 => exact fun _ _ _ h => h
      case hl30 => (simp only [gD,gE,gF]; try rfl)
      case hw30 => rfl
      case hv30 =>
       intro W hW
       go_simp
       try with_reducible rfl
      case ha30 => (simp only [Act.put,gD,gE,gF]; try rfl)
      refine tkS 3 ?o31 ?v31 ?l31 ?a31 ?hi31 ?hq31 ?hl31 ?hw31 ?hv31 ?ha31 HS0.out ?hh31
      case hi31 => (simp only [gA,gB,gC]; try rfl)
      case hq31 => exact fun _ _ _ h => h
      case hl31 => (simp only [gD,gE,gF]; try rfl)
      case hw31 => rfl
      case hv31 =>
       intro W hW
       go_simp
       try with_reducible rfl
      case ha31 => (simp only [Act.put,gD,gE,gF]; try rfl)
      refine tkS 4 ?o32 ?v32 ?l32 ?a32 ?hi32 ?hq32 ?hl32 ?hw32 ?hv32 ?ha32 HS0.out ?hh32
      case hi32 => (simp only [gA,gB,gC]; try rfl)
      case hq32 => exact fun _ _ _ h => h
      case hl32 => (simp only [gD,gE,gF]; try rfl)
      case hw32 => rfl
      case hv32 =>
       intro W hW
       go_simp
       try with_reducible rfl
      case ha32 => (simp only [Act.put,gD,gE,gF]; try rfl)
      refine tkS 5 ?o33 ?v33 ?l33 ?a33 ?hi33 ?hq33 ?hl33 ?hw33 ?hv33 ?ha33 HS0.out ?hh33
      case hi33 => (simp only [gA,gB,gC]; try rfl)
      case hq33 => exact fun _ _ _ h => h
      case hl33 => (simp only [gD,gE,gF]; try rfl)
      case hw33 => rfl
      case hv33 =>
       intro W hW
       obtain ⟨k0, k1, k2⟩ := (HL.out.on hW).cells
       go_simp
       try with_reducible rfl
      case ha33 => (simp only [Act.put,gD,gE,gF]; try rfl)
      refine wpAnyH_ready (rs := [1]) (by kernel_rfl) (by simp) ?_
      refine rh_cons (i := 1) (o := ?o34) (listed' := ?l34) ?hi34 ?hl34 ?hg34 ?hh34 ?hs34
      case hi34 => (simp only [gA,gB,gC]; try rfl)
      case hl34 => (simp only [gD,gE,gF]; try rfl)
      case hg34 => rfl
      case hs34 => exact AllReadyH.nil
      intro K hK
      go_simp
      refine hvd.mono ?_
      rintro z w1 ⟨rfl, hb⟩
      have HS1 : Hid (Below w.heap.size w w1) := hid (HS0.out.trans (hb.mono HS0.out.size))
      clear hb hvd
      refine hK.out _ _ HS1.out ?_
      clear hK K
      refine wpAnyH_ready (rs := [6]) (by kernel_rfl) (by simp) ?_
      refine rh_cons (i := 6) (o := ?o35) (listed' := ?l35) ?hi35 ?hl35 ?hg35 ?hh35 ?hs35
      case hi35 => (simp only [gA,gB,gC]; try rfl)
      case hl35 => (simp only [gD,gE,gF]; try rfl)
      case hg35 => rfl
      case hs35 => exact AllReadyH.nil
      intro K hK
      go_simp
      refine (hF _).mono ?_
      rintro z w2 ⟨rfl, rfl⟩
      refine hK.out _ _ HS1.out ?_
      clear hK K
      refine tkS 7 ?o36 ?v36 ?l36 ?a36 ?hi36 ?hq36 ?hl36 ?hw36 ?hv36 ?ha36 HS1.out ?hh36
      case hi36 => (simp only [gA,gB,gC]; try rfl)
      case hq36 => exact fun _ _ _ h => h
      case hl36 => (simp only [gD,gE,gF]; try rfl)
      case hw36 => rfl
      case hv36 =>
       intro W hW
       go_simp
       try with_reducible rfl
      case ha36 => (simp only [Act.put,gD,gE,gF]; try rfl)
      refine tkS 8 ?o37 ?v37 ?l37 ?a37 ?hi37 ?hq37 ?hl37 ?hw37 ?hv37 ?ha37 HS1.out ?hh37
      case hi37 => (simp only [gA,gB,gC]; try rfl)
      case hq37 => exact fun _ _ _ h => h
      case hl37 => (simp only [gD,gE,gF]; try rfl)
      case hw37 => rfl
      case hv37 =>
       intro W hW
       go_simp
       try with_reducible rfl
      case ha37 => (simp only [Act.put,gD,gE,gF]; try rfl)
      refine wpAnyH_done (by kernel_rfl) ?_ _
      have HL1 := hid (HL.out.on HS1.out)
      have HA1 := hid (HA.out.on HS1.out)
      have hgb : decide (fa ≤ (vo : Int)) = false := decide_eq_false h1
      obtain ⟨k0, k1, k2⟩ := HL1.out.cells
      have k12 := HA1.out.cells.2.2.2.2.2.1
      rw [HA1.out.rvn, ← HRL.out] at k12
      have hN1 := HNN.out.1
      have hN2 := HNN.out.2
      go_upto_region 4 with fail
      have hg2 : decide (N - fa < (rl : Int) - (vo : Int)) = false := decide_eq_false h2
      go_quiet (fail)
      rename_i nq
      have HS3 : Hid (Below w.heap.size w (w1.drewN nq)) := hid (Below.drewL HS1.out nq)
      have HL3 := hid (HL.out.on HS3.out)
      have HA3 := hid (HA.out.on HS3.out)
      generalize w1.drewN nq = w3 at HS3 HL3 HA3 ⊢
      go_wp2_with fail
      go_ret
      exact ActP.still HL.out HA.out HS3.out
set_option maxHeartbeats 8000000 in
set_option maxRecDepth 100000 in
theorem cProposed {w : World} {B q b n p : Nat} {nd N : Int} {f : Int → Option Nat} {x : Ax} (hL : Lq w B q b n nd N f) (hA : Ap w B p x) (hN : 3 ≤ N ∧ N ≤ 9) (hB : B ≤ w.heap.size) (hz : Sz 38 x) : Calls Tryz.prog 69 #[ptr q, ptr p] w (ActP w B q b n nd N f p x (proposedF nd N x.att)) := by
 have HL := hid hL
 have HA := hid hA
 have HZ := hid hz
 have HNN := hid hN
 have HBB := hid hB
 unfold proposedF
 rw [okL_an, refL_an, List.length_map, List.length_map]
 rw [show saidF [4, 2] x.att.rs = (saidM [4, 2] x.rs).map Ms.an from (saidM_an _ _).symm, frT_an, frL_an, frE_an]
 obtain ⟨cl, hcl⟩ : ∃ z, z = clI N := ⟨_, rfl⟩
 have hC := fun W => sClassic_any N W
 have hcb := cl_bds hN
 rw [← hcl] at hC hcb ⊢
 obtain ⟨ol, hol⟩ : ∃ z, z = (saidM [1] x.rs).length := ⟨_, rfl⟩
 have HOL := hid hol
 have hob : ol ≤ 38 := by have h1 := saidM_len [1] x.rs; have := hz.len; omega
 obtain ⟨fl, hfl⟩ : ∃ z, z = (saidM [2] x.rs).length := ⟨_, rfl⟩
 have HFL := hid hfl
 have hfb : fl ≤ 38 := by have h1 := saidM_len [2] x.rs; have := hz.len; omega
 obtain ⟨R, hR⟩ : ∃ z, z = saidM [4, 2] x.rs := ⟨_, rfl⟩
 have HR := hid hR
 have HRM := hid (show ∀ m ∈ R, m ∈ x.rs from fun m hm => saidM_mem (by rw [← hR]; exact hm))
 have HRB := hid (show R.length ≤ 38 by rw [hR]; exact Nat.le_trans (saidM_len _ _) hz.len)
 obtain ⟨ex, hex⟩ : ∃ z, z = x.ex := ⟨_, rfl⟩
 have HEX := hid hex
 rw [← hol, ← hfl, ← hR, show x.att.ex = ex from hex.symm]
 have HOK : Hid (∀ W b0 cap, Below w.heap.size w W → b0 < W.heap.size → SoR W b0 [1] → Calls Tryz.prog 56 #[ptr p, .slice (some ⟨b0, 0, none⟩) 1 cap] W fun e w' => (∃ a c, e = .returned (.slice a ol c)) ∧ Below W.heap.size W w') := hid (fun W b0 cap hW hb0 hs => by
  refine (cSaid (cap := cap) (hA.on hW) (by have := hz.len; omega) hs hb0 (by decide)).mono ?_
  rintro e w' ⟨v, rfl, ho, hb⟩
  obtain ⟨g, c, n, rfl, hn⟩ := OwnG.asSlice ho
  exact ⟨⟨g, c, by rw [hol, hn]; unfold mgs; rw [List.length_map]⟩, hb⟩)
 have HRF : Hid (∀ W b0 cap, Below w.heap.size w W → b0 < W.heap.size → SoR W b0 [2] → Calls Tryz.prog 56 #[ptr p, .slice (some ⟨b0, 0, none⟩) 1 cap] W fun e w' => (∃ a c, e = .returned (.slice a fl c)) ∧ Below W.heap.size W w') := hid (fun W b0 cap hW hb0 hs => by
  refine (cSaid (cap := cap) (hA.on hW) (by have := hz.len; omega) hs hb0 (by decide)).mono ?_
  rintro e w' ⟨v, rfl, ho, hb⟩
  obtain ⟨g, c, n, rfl, hn⟩ := OwnG.asSlice ho
  exact ⟨⟨g, c, by rw [hfl, hn]; unfold mgs; rw [List.length_map]⟩, hb⟩)
 clear hcl hol hfl hR hex hL hA hz hB
 by_cases h1 : cl ≤ (ol : Int)
 · as_aux_lemma =>
    rw [if_pos h1]
    have tok1 : Hid (0 = 0) := hid rfl
    have tok2 : Hid (0 = 0) := hid rfl
    have HQ : Hid (Below w.heap.size w (w.alloc (.cells #[.int .i64 2] 46))) := hid (laid1_b w _)
    obtain ⟨k0, k1, k2⟩ := HL.out.cells
    have hN1 := HNN.out.1
    have hN2 := HNN.out.2
    have hg1 : decide (cl ≤ (ol : Int)) = true := decide_eq_true h1
    go_enter Tryz.func69, Tryz.ntmps69
    go_wp2_with (first
     | (go_at_call 26; refine (hC _).mono ?_; rintro e w' ⟨rfl, rfl⟩)
     | (clear tok1; go_at_call 56; refine (HRF.out _ w.heap.size 1 HQ.out (by simp) (sor1 w 2)).mono ?_; rintro e w1 ⟨⟨fa1, fc1, rfl⟩, hb⟩; have HB1 : Hid (Below w.heap.size w w1) := hid (HQ.out.trans (hb.mono HQ.out.size)); have HQ1 : Hid (Below w.heap.size w (w1.alloc (.cells #[.int .i64 1] 46))) := hid (HB1.out.trans ((laid1_b w1 _).mono HB1.out.size)); obtain ⟨k0, k1, k2⟩ := (HL.out.on HB1.out).cells; clear hb)
     | (clear tok2; go_at_call 56; refine (HOK.out _ w1.heap.size 1 HQ1.out (by simp) (sor1 w1 1)).mono ?_; rintro e w2 ⟨⟨oa, oc, rfl⟩, hb⟩; have HB2 : Hid (Below w.heap.size w w2) := hid (HQ1.out.trans (hb.mono HQ1.out.size)); have HL2 := hid (HL.out.on HB2.out); have HA2 := hid (HA.out.on HB2.out); obtain ⟨j0, j1, j2⟩ := HL2.out.cells; have e11 := HA2.out.cells.2.2.2.2.1; rw [← HEX.out] at e11; clear hb; have hca := cCloseAll HL2.out HA2.out HNN.out (Nat.le_trans HBB.out HB2.out.size) HZ.out)
     | (go_at_call 57; refine hca.mono ?_; intro e w6 h2; have H2 := hid h2; obtain ⟨v, ls, rfl, h3⟩ := h2; have H3 := hid h3; clear h3 hca)
     | fail)
    go_ret
    exact ActP.from (x := x) H2.out (Tch.ofBelow HB2.out) rfl (fun k hk => .inl hk)
 · rcases ex with _ | _
   · by_cases h4 : N - cl < (fl : Int)
     · as_aux_lemma =>
        rw [if_neg h1, if_neg (fun h => absurd h.1 (by decide)), if_pos h4]
        have tok1 : Hid (0 = 0) := hid rfl
        have tok2 : Hid (0 = 0) := hid rfl
        have HQ : Hid (Below w.heap.size w (w.alloc (.cells #[.int .i64 2] 46))) := hid (laid1_b w _)
        obtain ⟨k0, k1, k2⟩ := HL.out.cells
        have hN1 := HNN.out.1
        have hN2 := HNN.out.2
        have hg1 : decide (cl ≤ (ol : Int)) = false := decide_eq_false h1
        have hg4 : decide (N - cl < (fl : Int)) = true := decide_eq_true h4
        go_enter Tryz.func69, Tryz.ntmps69
        go_wp2_with (first
         | (go_at_call 26; refine (hC _).mono ?_; rintro e w' ⟨rfl, rfl⟩)
         | (clear tok1; go_at_call 56; refine (HRF.out _ w.heap.size 1 HQ.out (by simp) (sor1 w 2)).mono ?_; rintro e w1 ⟨⟨fa1, fc1, rfl⟩, hb⟩; have HB1 : Hid (Below w.heap.size w w1) := hid (HQ.out.trans (hb.mono HQ.out.size)); have HQ1 : Hid (Below w.heap.size w (w1.alloc (.cells #[.int .i64 1] 46))) := hid (HB1.out.trans ((laid1_b w1 _).mono HB1.out.size)); obtain ⟨k0, k1, k2⟩ := (HL.out.on HB1.out).cells; clear hb)
         | (clear tok2; go_at_call 56; refine (HOK.out _ w1.heap.size 1 HQ1.out (by simp) (sor1 w1 1)).mono ?_; rintro e w2 ⟨⟨oa, oc, rfl⟩, hb⟩; have HB2 : Hid (Below w.heap.size w w2) := hid (HQ1.out.trans (hb.mono HQ1.out.size)); have HL2 := hid (HL.out.on HB2.out); have HA2 := hid (HA.out.on HB2.out); obtain ⟨j0, j1, j2⟩ := HL2.out.cells; have e11 := HA2.out.cells.2.2.2.2.1; rw [← HEX.out] at e11; clear hb; have hca := cRaise HL2.out HA2.out HNN.out (Nat.le_trans HBB.out HB2.out.size) HZ.out)
         | (go_at_call 58; refine hca.mono ?_; intro e w6 h2; have H2 := hid h2; obtain ⟨v, ls, rfl, h3⟩ := h2; have H3 := hid h3; clear h3 hca)
         | fail)
        go_ret
        exact ActP.from (x := x) H2.out (Tch.ofBelow HB2.out) rfl (fun k hk => .inl hk)
     · as_aux_lemma =>
        rw [if_neg h1, if_neg (fun h => absurd h.1 (by decide)), if_neg h4]
        have tok1 : Hid (0 = 0) := hid rfl
        have tok2 : Hid (0 = 0) := hid rfl
        have HQ : Hid (Below w.heap.size w (w.alloc (.cells #[.int .i64 2] 46))) := hid (laid1_b w _)
        obtain ⟨k0, k1, k2⟩ := HL.out.cells
        have hN1 := HNN.out.1
        have hN2 := HNN.out.2
        have hg1 : decide (cl ≤ (ol : Int)) = false := decide_eq_false h1
        have hg4 : decide (N - cl < (fl : Int)) = false := decide_eq_false h4
        go_enter Tryz.func69, Tryz.ntmps69
        go_wp2_with (first
         | (go_at_call 26; refine (hC _).mono ?_; rintro e w' ⟨rfl, rfl⟩)
         | (clear tok1; go_at_call 56; refine (HRF.out _ w.heap.size 1 HQ.out (by simp) (sor1 w 2)).mono ?_; rintro e w1 ⟨⟨fa1, fc1, rfl⟩, hb⟩; have HB1 : Hid (Below w.heap.size w w1) := hid (HQ.out.trans (hb.mono HQ.out.size)); have HQ1 : Hid (Below w.heap.size w (w1.alloc (.cells #[.int .i64 1] 46))) := hid (HB1.out.trans ((laid1_b w1 _).mono HB1.out.size)); obtain ⟨k0, k1, k2⟩ := (HL.out.on HB1.out).cells; clear hb)
         | (clear tok2; go_at_call 56; refine (HOK.out _ w1.heap.size 1 HQ1.out (by simp) (sor1 w1 1)).mono ?_; rintro e w2 ⟨⟨oa, oc, rfl⟩, hb⟩; have HB2 : Hid (Below w.heap.size w w2) := hid (HQ1.out.trans (hb.mono HQ1.out.size)); have HL2 := hid (HL.out.on HB2.out); have HA2 := hid (HA.out.on HB2.out); obtain ⟨j0, j1, j2⟩ := HL2.out.cells; have e11 := HA2.out.cells.2.2.2.2.1; rw [← HEX.out] at e11; clear hb)
         | fail)
        go_ret
        exact ActP.still HL.out HA.out HB2.out
   · by_cases h3 : 0 < fl
     · as_aux_lemma =>
        rw [if_neg h1, if_pos ⟨rfl, h3⟩]
        have tok1 : Hid (0 = 0) := hid rfl
        have tok2 : Hid (0 = 0) := hid rfl
        have HQ : Hid (Below w.heap.size w (w.alloc (.cells #[.int .i64 2] 46))) := hid (laid1_b w _)
        obtain ⟨k0, k1, k2⟩ := HL.out.cells
        have hN1 := HNN.out.1
        have hN2 := HNN.out.2
        have hg1 : decide (cl ≤ (ol : Int)) = false := decide_eq_false h1
        have hg3 : decide (0 < fl) = true := decide_eq_true h3
        have hg3' : decide ((0 : Int) < (fl : Int)) = true := decide_eq_true (by omega)
        go_enter Tryz.func69, Tryz.ntmps69
        go_wp2_with (first
         | (go_at_call 26; refine (hC _).mono ?_; rintro e w' ⟨rfl, rfl⟩)
         | (clear tok1; go_at_call 56; refine (HRF.out _ w.heap.size 1 HQ.out (by simp) (sor1 w 2)).mono ?_; rintro e w1 ⟨⟨fa1, fc1, rfl⟩, hb⟩; have HB1 : Hid (Below w.heap.size w w1) := hid (HQ.out.trans (hb.mono HQ.out.size)); have HQ1 : Hid (Below w.heap.size w (w1.alloc (.cells #[.int .i64 1] 46))) := hid (HB1.out.trans ((laid1_b w1 _).mono HB1.out.size)); obtain ⟨k0, k1, k2⟩ := (HL.out.on HB1.out).cells; clear hb)
         | (clear tok2; go_at_call 56; refine (HOK.out _ w1.heap.size 1 HQ1.out (by simp) (sor1 w1 1)).mono ?_; rintro e w2 ⟨⟨oa, oc, rfl⟩, hb⟩; have HB2 : Hid (Below w.heap.size w w2) := hid (HQ1.out.trans (hb.mono HQ1.out.size)); have HL2 := hid (HL.out.on HB2.out); have HA2 := hid (HA.out.on HB2.out); obtain ⟨j0, j1, j2⟩ := HL2.out.cells; have e11 := HA2.out.cells.2.2.2.2.1; rw [← HEX.out] at e11; clear hb; have HQ2 : Hid (Below w.heap.size w (w2.alloc (.cells #[.int .i64 4, .int .i64 2] 46))) := hid (HB2.out.trans ((laid1_b w2 _).mono HB2.out.size)); have hsd := cSaid (cap := 2) (HA.out.on HQ2.out) (by have := HZ.out.len; omega) (sor2 w2 4 2) (by simp) (by decide); rw [← HR.out] at hsd)
         | (go_at_call 56; refine hsd.mono ?_; rintro e w3 ⟨v0, rfl, ho, hb⟩; obtain ⟨ra, rc, rn, rfl, hrn⟩ := OwnG.asSlice ho; clear hrn; have HB3 : Hid (Below w.heap.size w w3) := hid (HQ2.out.trans (hb.mono HQ2.out.size)); have hfr := cFresh (OwnG.slG kM ho) (fun m hm => ((HA.out.on HB3.out).rs m (HRM.out m hm)).at) (fun m hm => HZ.out.sh m (HRM.out m hm)) (by have := HRB.out; omega); clear ho hb hsd)
         | (go_at_call 87; refine hfr.mono ?_; rintro e w4 ⟨⟨fa, fn, fc⟩, rfl, hs, hb⟩; have HS4 := hid hs; have HB4 : Hid (Below w.heap.size w w4) := hid (HB3.out.trans (hb.mono HB3.out.size)); clear hs hb hfr)
         | ((with_reducible refine storeV (x := ?wx38) (y := ?wy38) (b := w4.heap.size) (freshT R) ⟨fa, fn, fc⟩ ?wg38 ?wo38 ?wxx38 ?wyy38 ?wc38 ?wh38); (case wg38 => rfl); (case wo38 => rfl); (case wxx38 => rfl); (case wyy38 => rfl); (case wc38 => exact roomVZ w4); intro w5 hO hU; have HO5 : Hid (OV w5 w4.heap.size (freshT R) ⟨fa, fn, fc⟩) := hid hO; have HB45 : Hid (Below w4.heap.size w4 w5) := hid ((laid1_b w4 zeroVc).trans (hU.below w4.heap.size (Nat.le_refl _))); have HB5 : Hid (Below w.heap.size w w5) := hid (HB4.out.trans (HB45.out.mono HB4.out.size)); have HS5 := hid (HS4.out.on HB45.out); have hpf := cProposeFree (HL.out.on HB5.out) (HA.out.on HB5.out) HNN.out (Nat.le_trans HBB.out HB5.out.size) HZ.out (vt := freshT R) (vp := ⟨fa, fn, fc⟩) (freshE R) (fun _ => HS5.out.setC) (freshL_len R); clear hO hU)
         | ((with_reducible refine loadVl (x := ?vx39) (b := w4.heap.size) (o := 0) (freshT R) ⟨fa, fn, fc⟩ ?vg39 ?vo39 ?vxx39 ?vc39 ?_); (case vg39 => rfl); (case vo39 => rfl); (case vxx39 => rfl); (case vc39 => exact HO5.out.range))
         | (go_at_call 88; refine hpf.mono ?_; intro e w6 h2; have H2 := hid h2; obtain ⟨v, ls, rfl, h3⟩ := h2; have H3 := hid h3; clear h3 hpf)
         | fail)
        go_ret
        exact ActP.from (x := x) H2.out (Tch.ofBelow HB5.out) rfl (fun k hk => .inl hk)
     · by_cases h4 : N - cl < (fl : Int)
       · as_aux_lemma =>
          exfalso
          omega
       · as_aux_lemma =>
          rw [if_neg h1, if_neg (fun h => h3 h.2), if_neg h4]
          have tok1 : Hid (0 = 0) := hid rfl
          have tok2 : Hid (0 = 0) := hid rfl
          have HQ : Hid (Below w.heap.size w (w.alloc (.cells #[.int .i64 2] 46))) := hid (laid1_b w _)
          obtain ⟨k0, k1, k2⟩ := HL.out.cells
          have hN1 := HNN.out.1
          have hN2 := HNN.out.2
          have hg1 : decide (cl ≤ (ol : Int)) = false := decide_eq_false h1
          have hg3 : decide (0 < fl) = false := decide_eq_false h3
          have hg3' : decide ((0 : Int) < (fl : Int)) = false := decide_eq_false (by omega)
          have hg4 : decide (N - cl < (fl : Int)) = false := decide_eq_false h4
          go_enter Tryz.func69, Tryz.ntmps69
          go_wp2_with (first
           | (go_at_call 26; refine (hC _).mono ?_; rintro e w' ⟨rfl, rfl⟩)
           | (clear tok1; go_at_call 56; refine (HRF.out _ w.heap.size 1 HQ.out (by simp) (sor1 w 2)).mono ?_; rintro e w1 ⟨⟨fa1, fc1, rfl⟩, hb⟩; have HB1 : Hid (Below w.heap.size w w1) := hid (HQ.out.trans (hb.mono HQ.out.size)); have HQ1 : Hid (Below w.heap.size w (w1.alloc (.cells #[.int .i64 1] 46))) := hid (HB1.out.trans ((laid1_b w1 _).mono HB1.out.size)); obtain ⟨k0, k1, k2⟩ := (HL.out.on HB1.out).cells; clear hb)
           | (clear tok2; go_at_call 56; refine (HOK.out _ w1.heap.size 1 HQ1.out (by simp) (sor1 w1 1)).mono ?_; rintro e w2 ⟨⟨oa, oc, rfl⟩, hb⟩; have HB2 : Hid (Below w.heap.size w w2) := hid (HQ1.out.trans (hb.mono HQ1.out.size)); have HL2 := hid (HL.out.on HB2.out); have HA2 := hid (HA.out.on HB2.out); obtain ⟨j0, j1, j2⟩ := HL2.out.cells; have e11 := HA2.out.cells.2.2.2.2.1; rw [← HEX.out] at e11; clear hb)
           | fail)
          go_ret
          exact ActP.still HL.out HA.out HB2.out
end Go.Proofs.YtplodoindppleaaGreat
