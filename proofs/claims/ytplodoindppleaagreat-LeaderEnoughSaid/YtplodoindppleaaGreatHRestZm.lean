import Derived.Test.YtplodoindppleaaGreatG12
namespace Go.Proofs.YtplodoindppleaaGreat
set_option linter.unusedVariables false
open Go.RowKit
open Go.Lib (hid)
theorem rBallot5 (t : Int) (w : World) : Calls Tryz.prog 44 #[.int .i64 t] w fun e w' => e = .returned (.bool (withinB t 1048576)) ∧ w = w' := by
 by_cases h0 : 0 ≤ t
 · go_enter Tryz.func44, Tryz.ntmps44
   go_wp2
   go_ret
   exact ⟨ret_bool (by unfold withinB; symm; simp; omega), rfl⟩
 · go_enter Tryz.func44, Tryz.ntmps44
   go_wp2
   go_ret
   exact ⟨ret_bool (by unfold withinB; symm; simp; omega), rfl⟩
set_option maxHeartbeats 600000 in
set_option maxRecDepth 100000 in
theorem rFull5 {v : Value} {l : List C7} {w : World} (t : Int) (h : Sl w v l) (hl : l.length ≤ 1024) : Calls Tryz.prog 45 #[.agg #[.int .i64 t, v]] w fun e w' => e = .returned (.bool (fullB t l)) ∧ Below w.heap.size w w' := by
 obtain ⟨_, _, cap, a, hv, _⟩ := id h
 subst hv
 have hS := rSetRight (h.on ((Below.refl _ w).alloc (Nat.le_refl _) (boxV t (.slice a l.length cap)))) hl
 have hV := fun W => rValid t W
 rcases hv : validB t with _ | _
 · rw [hv] at hV
   have HE := hid (show fullB t l = false by unfold fullB; rw [hv]; rfl)
   clear hv
   go_enter Tryz.func45, Tryz.ntmps45
   go_wp2_with (first | (go_at_call 46; refine (hV _).mono ?_; rintro e w' ⟨rfl, rfl⟩) | (go_at_call 49; refine hS.mono ?_; rintro e w1 ⟨rfl, hB⟩; have HB := hid hB; clear hB))
   go_ret
   exact ⟨ret_bool HE.out.symm, ((Below.refl _ w).alloc (Nat.le_refl _) _).trans (HB.out.mono (by simp))⟩
 · rw [hv] at hV
   have HE := hid (show fullB t l = setB l by unfold fullB; rw [hv]; rfl)
   clear hv
   go_enter Tryz.func45, Tryz.ntmps45
   go_wp2_with (first | (go_at_call 46; refine (hV _).mono ?_; rintro e w' ⟨rfl, rfl⟩) | (go_at_call 49; refine hS.mono ?_; rintro e w1 ⟨rfl, hB⟩; have HB := hid hB; clear hB))
   go_ret
   exact ⟨ret_bool HE.out.symm, ((Below.refl _ w).alloc (Nat.le_refl _) _).trans (HB.out.mono (by simp))⟩
set_option maxHeartbeats 600000 in
set_option maxRecDepth 100000 in
theorem rNone5 {a : Option Addr} {n cap : Nat} {l : List C7} {w : World} (t : Int) (hn : n = l.length) : Calls Tryz.prog 48 #[.agg #[.int .i64 t, .slice a n cap]] w fun e w' => e = .returned (.bool (noneB t l)) ∧ Below w.heap.size w w' := by
 have HN := hid (show noneB t l = (decide (t = 0) && decide (n = 0)) by unfold noneB; rw [hn])
 clear hn
 by_cases ht : t = 0
 · subst ht
   go_enter Tryz.func48, Tryz.ntmps48
   go_wp2
   go_ret
   exact ⟨ret_bool (by rw [HN.out, Bool.eq_iff_iff]; simp), (Below.refl _ w).alloc (Nat.le_refl _) _⟩
 · go_enter Tryz.func48, Tryz.ntmps48
   go_wp2
   go_ret
   exact ⟨ret_bool (by rw [HN.out]; simp [ht]), (Below.refl _ w).alloc (Nat.le_refl _) _⟩
theorem rNode5 (x : Int) (w : World) : Calls Tryz.prog 43 #[.int .i64 x] w fun e w' => e = .returned (.bool (inB x 9)) ∧ w = w' := by
 by_cases h0 : 0 ≤ x
 · go_enter Tryz.func43, Tryz.ntmps43
   go_wp2
   go_ret
   exact ⟨ret_bool (by unfold inB; rw [Bool.eq_iff_iff]; simp; omega), rfl⟩
 · go_enter Tryz.func43, Tryz.ntmps43
   go_wp2
   go_ret
   exact ⟨ret_bool (by unfold inB; rw [Bool.eq_iff_iff]; simp; omega), rfl⟩
theorem OM.cells20 {w : World} {q : Nat} {m : Mg} (h : OM w q m) : w.cell? ⟨q, 0, none⟩ = some (.int .i64 m.so) ∧ w.cell? ⟨q, 1, none⟩ = some (.int .i64 m.fr) ∧ w.cell? ⟨q, 2, none⟩ = some (.int .i64 m.tt) ∧ w.cell? ⟨q, 3, none⟩ = some (.int .i64 m.bal) ∧ w.cell? ⟨q, 4, none⟩ = some (.int .i64 m.c.i) ∧ w.cell? ⟨q, 5, none⟩ = some (.int .i64 m.c.k) ∧ w.cell? ⟨q, 6, none⟩ = some (.int .i64 m.c.s) ∧ w.cell? ⟨q, 7, none⟩ = some (.int .i64 m.c.t) ∧ w.cell? ⟨q, 8, none⟩ = some (.int .i64 m.c.d) ∧ w.cell? ⟨q, 9, none⟩ = some (.int .i64 m.c.p) ∧ w.cell? ⟨q, 10, none⟩ = some (.int .i64 m.c.q) ∧ w.cell? ⟨q, 11, none⟩ = some (.int .i64 m.vt) ∧ w.cell? ⟨q, 12, none⟩ = some (.slice m.vp.a m.vp.n m.vp.c) ∧ w.cell? ⟨q, 13, none⟩ = some (.bool m.fl) ∧ w.cell? ⟨q, 14, none⟩ = some (.int .i64 m.s) ∧ w.cell? ⟨q, 15, none⟩ = some (.int .i64 m.ab) ∧ w.cell? ⟨q, 16, none⟩ = some (.int .i64 m.xt) ∧ w.cell? ⟨q, 17, none⟩ = some (.slice m.xp.a m.xp.n m.xp.c) ∧ w.cell? ⟨q, 18, none⟩ = some (.int .i64 m.ft) ∧ w.cell? ⟨q, 19, none⟩ = some (.slice m.fp.a m.fp.n m.fp.c) :=
 ⟨h.cell (m := m) (j := 0) rfl, h.cell (m := m) (j := 1) rfl, h.cell (m := m) (j := 2) rfl, h.cell (m := m) (j := 3) rfl, h.cell (m := m) (j := 4) rfl, h.cell (m := m) (j := 5) rfl, h.cell (m := m) (j := 6) rfl, h.cell (m := m) (j := 7) rfl, h.cell (m := m) (j := 8) rfl, h.cell (m := m) (j := 9) rfl, h.cell (m := m) (j := 10) rfl, h.cell (m := m) (j := 11) rfl, h.cell (m := m) (j := 12) rfl, h.cell (m := m) (j := 13) rfl, h.cell (m := m) (j := 14) rfl, h.cell (m := m) (j := 15) rfl, h.cell (m := m) (j := 16) rfl, h.cell (m := m) (j := 17) rfl, h.cell (m := m) (j := 18) rfl, h.cell (m := m) (j := 19) rfl⟩
def rstB (m : Ms) (s fl : Bool) : Bool := ((noneB m.m.xt m.a && noneB m.m.ft m.f) && (s || decide (m.m.s = 0))) && (fl || !m.m.fl)
theorem noneAF_eq (m : Ms) : noneAF m = (noneB m.m.xt m.a && noneB m.m.ft m.f) := by unfold noneAF noneL; simp
theorem noneVAF_eq (m : Ms) : noneVAF m = (noneB m.m.vt m.v && (noneB m.m.xt m.a && noneB m.m.ft m.f)) := by unfold noneVAF noneL; simp
set_option maxHeartbeats 8000000 in
set_option maxRecDepth 100000 in
theorem rRest5 {w : World} {m : Ms} (s fl : Bool) (hm : m.at w) : Calls Tryz.prog 47 #[.agg m.m.arr, .bool s, .bool fl] w fun e w' => e = .returned (.bool (rstB m s fl)) ∧ Below w.heap.size w w' := by
 have HB := hid (laid1_b w (.cells m.m.arr 48))
 have HM : Hid (OM (w.alloc (.cells m.m.arr 48)) w.heap.size m.m) := hid (laid1_0 w _)
 have e2 := hm.2.1.lenP
 have e3 := hm.2.2.lenP
 obtain ⟨na, hna⟩ : ∃ z, z = noneB m.m.xt m.a := ⟨_, rfl⟩
 obtain ⟨nf, hnf⟩ : ∃ z, z = noneB m.m.ft m.f := ⟨_, rfl⟩
 have HNA : Hid (∀ W : World, Calls Tryz.prog 48 #[.agg #[.int .i64 m.m.xt, .slice m.m.xp.a m.m.xp.n m.m.xp.c]] W fun e w' => e = .returned (.bool na) ∧ Below W.heap.size W w') := hid (fun W => by rw [hna]; exact rNone5 _ e2)
 have HNF : Hid (∀ W : World, Calls Tryz.prog 48 #[.agg #[.int .i64 m.m.ft, .slice m.m.fp.a m.m.fp.n m.m.fp.c]] W fun e w' => e = .returned (.bool nf) ∧ Below W.heap.size W w') := hid (fun W => by rw [hnf]; exact rNone5 _ e3)
 have HR : Hid (rstB m s fl = (((na && nf) && (s || decide (m.m.s = 0))) && (fl || !m.m.fl))) := hid (by unfold rstB; rw [hna, hnf])
 clear hna hnf e2 e3 hm
 go_enter Tryz.func47, Tryz.ntmps47
 go_upto_region 1 with fail
 generalize (w.alloc (.cells m.m.arr 48)) = W0 at HB HM ⊢
 obtain ⟨c0, c1, c2, c3, c4, c5, c6, c7, c8, c9, c10, c11, c12, c13, c14, c15, c16, c17, c18, c19⟩ := OM.cells20 HM.out
 have tkA : Hid (0 = 0) := hid rfl
 have tkF : Hid (0 = 0) := hid rfl
 rcases na with _ | _
 · as_aux_lemma =>
    rcases nf with _ | _ <;> rcases s with _ | _ <;> rcases fl with _ | _
    all_goals (as_aux_lemma =>
     go_wp2_with (first | (clear tkA; go_at_call 48; refine (HNA.out _).mono ?_; rintro e w1 ⟨rfl, hB⟩; have HB1 := hid (HB.out.trans (hB.mono HB.out.size)); have HM1 : Hid (OM w1 w.heap.size m.m) := hid (heapB HM.out hB (Array.getElem?_eq_some_iff.1 HM.out).1); clear hB; clear c0 c1 c2 c3 c4 c5 c6 c7 c8 c9 c10 c11 c12 c13 c14 c15 c16 c17 c18 c19; obtain ⟨c0, c1, c2, c3, c4, c5, c6, c7, c8, c9, c10, c11, c12, c13, c14, c15, c16, c17, c18, c19⟩ := OM.cells20 HM1.out) | fail)
     go_ret
     exact ⟨ret_bool (by rw [HR.out]; simp), HB1.out⟩
    )
 · as_aux_lemma =>
    rcases nf with _ | _
    · rcases s with _ | _ <;> rcases fl with _ | _
      all_goals (as_aux_lemma =>
       go_wp2_with (first | (clear tkA; go_at_call 48; refine (HNA.out _).mono ?_; rintro e w1 ⟨rfl, hB⟩; have HB1 := hid (HB.out.trans (hB.mono HB.out.size)); have HM1 : Hid (OM w1 w.heap.size m.m) := hid (heapB HM.out hB (Array.getElem?_eq_some_iff.1 HM.out).1); clear hB; clear c0 c1 c2 c3 c4 c5 c6 c7 c8 c9 c10 c11 c12 c13 c14 c15 c16 c17 c18 c19; obtain ⟨c0, c1, c2, c3, c4, c5, c6, c7, c8, c9, c10, c11, c12, c13, c14, c15, c16, c17, c18, c19⟩ := OM.cells20 HM1.out) | (clear tkF; go_at_call 48; refine (HNF.out _).mono ?_; rintro e w2 ⟨rfl, hB⟩; have HB2 := hid (HB1.out.trans (hB.mono HB1.out.size)); have HM2 : Hid (OM w2 w.heap.size m.m) := hid (heapB HM1.out hB (Array.getElem?_eq_some_iff.1 HM1.out).1); clear hB; clear c0 c1 c2 c3 c4 c5 c6 c7 c8 c9 c10 c11 c12 c13 c14 c15 c16 c17 c18 c19; obtain ⟨c0, c1, c2, c3, c4, c5, c6, c7, c8, c9, c10, c11, c12, c13, c14, c15, c16, c17, c18, c19⟩ := OM.cells20 HM2.out) | fail)
       go_ret
       exact ⟨ret_bool (by rw [HR.out]; simp), HB2.out⟩
      )
    · obtain ⟨mfl, hmf⟩ : ∃ z, z = m.m.fl := ⟨_, rfl⟩
      rw [← hmf] at HR
      rw [← hmf] at c13
      have HMF := hid hmf
      clear hmf
      by_cases hs0 : m.m.s = 0
      · rw [hs0] at HR
        have hs : (m.m.s == 0) = true := by simp [hs0]
        clear hs0
        rcases s with _ | _ <;> rcases fl with _ | _ <;> rcases mfl with _ | _
        all_goals (as_aux_lemma =>
         go_wp2_with (first | (clear tkA; go_at_call 48; refine (HNA.out _).mono ?_; rintro e w1 ⟨rfl, hB⟩; have HB1 := hid (HB.out.trans (hB.mono HB.out.size)); have HM1 : Hid (OM w1 w.heap.size m.m) := hid (heapB HM.out hB (Array.getElem?_eq_some_iff.1 HM.out).1); clear hB; clear c0 c1 c2 c3 c4 c5 c6 c7 c8 c9 c10 c11 c12 c13 c14 c15 c16 c17 c18 c19; obtain ⟨c0, c1, c2, c3, c4, c5, c6, c7, c8, c9, c10, c11, c12, c13, c14, c15, c16, c17, c18, c19⟩ := OM.cells20 HM1.out) | (clear tkF; go_at_call 48; refine (HNF.out _).mono ?_; rintro e w2 ⟨rfl, hB⟩; have HB2 := hid (HB1.out.trans (hB.mono HB1.out.size)); have HM2 : Hid (OM w2 w.heap.size m.m) := hid (heapB HM1.out hB (Array.getElem?_eq_some_iff.1 HM1.out).1); clear hB; clear c0 c1 c2 c3 c4 c5 c6 c7 c8 c9 c10 c11 c12 c13 c14 c15 c16 c17 c18 c19; obtain ⟨c0, c1, c2, c3, c4, c5, c6, c7, c8, c9, c10, c11, c12, c13, c14, c15, c16, c17, c18, c19⟩ := OM.cells20 HM2.out; rw [← HMF.out] at c13) | fail)
         go_ret
         exact ⟨ret_bool (by rw [HR.out]; simp), HB2.out⟩
        )
      · have HS0 := hid hs0
        have hs : (m.m.s == 0) = false := by simp [hs0]
        clear hs0
        rcases s with _ | _ <;> rcases fl with _ | _ <;> rcases mfl with _ | _
        all_goals (as_aux_lemma =>
         go_wp2_with (first | (clear tkA; go_at_call 48; refine (HNA.out _).mono ?_; rintro e w1 ⟨rfl, hB⟩; have HB1 := hid (HB.out.trans (hB.mono HB.out.size)); have HM1 : Hid (OM w1 w.heap.size m.m) := hid (heapB HM.out hB (Array.getElem?_eq_some_iff.1 HM.out).1); clear hB; clear c0 c1 c2 c3 c4 c5 c6 c7 c8 c9 c10 c11 c12 c13 c14 c15 c16 c17 c18 c19; obtain ⟨c0, c1, c2, c3, c4, c5, c6, c7, c8, c9, c10, c11, c12, c13, c14, c15, c16, c17, c18, c19⟩ := OM.cells20 HM1.out) | (clear tkF; go_at_call 48; refine (HNF.out _).mono ?_; rintro e w2 ⟨rfl, hB⟩; have HB2 := hid (HB1.out.trans (hB.mono HB1.out.size)); have HM2 : Hid (OM w2 w.heap.size m.m) := hid (heapB HM1.out hB (Array.getElem?_eq_some_iff.1 HM1.out).1); clear hB; clear c0 c1 c2 c3 c4 c5 c6 c7 c8 c9 c10 c11 c12 c13 c14 c15 c16 c17 c18 c19; obtain ⟨c0, c1, c2, c3, c4, c5, c6, c7, c8, c9, c10, c11, c12, c13, c14, c15, c16, c17, c18, c19⟩ := OM.cells20 HM2.out; rw [← HMF.out] at c13) | fail)
         go_ret
         exact ⟨ret_bool (by rw [HR.out]; simp [HS0.out]), HB2.out⟩
        )
end Go.Proofs.YtplodoindppleaaGreat
