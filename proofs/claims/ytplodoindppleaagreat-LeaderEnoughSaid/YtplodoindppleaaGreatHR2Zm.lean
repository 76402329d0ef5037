import Derived.Test.YtplodoindppleaaGreatHR0Zm
namespace Go.Proofs.YtplodoindppleaaGreat
set_option linter.unusedVariables false
open Go.RowKit
open Go.Lib (hid)
set_option maxHeartbeats 16000000 in
set_option maxRecDepth 100000 in
theorem rR5_5 {w : World} {m : Ms} (hm : m.at w) (hms : m.short 1024) (hg : m.m.c.ok = true ∧ inB m.m.fr 9 = true ∧ inB m.m.tt 9 = true ∧ withinB m.m.bal 1048576 = true) (hs : m.m.so = 5) : Calls Tryz.prog 19 #[.agg m.m.arr] w fun e w' => e = .returned (.bool (rightM m)) ∧ Below w.heap.size w w' := by
 obtain ⟨ok, hok⟩ : ∃ z, z = m.m.c.ok := ⟨_, rfl⟩
 obtain ⟨n1, hn1⟩ : ∃ z, z = inB m.m.fr 9 := ⟨_, rfl⟩
 obtain ⟨n2, hn2⟩ : ∃ z, z = inB m.m.tt 9 := ⟨_, rfl⟩
 obtain ⟨bb, hbb⟩ : ∃ z, z = withinB m.m.bal 1048576 := ⟨_, rfl⟩
 obtain ⟨vf, hvf⟩ : ∃ z, z = fullB m.m.vt m.v := ⟨_, rfl⟩
 obtain ⟨sv, hsv⟩ : ∃ z, z = validB m.m.s := ⟨_, rfl⟩
 obtain ⟨rs, hrs⟩ : ∃ z, z = rstB m false false := ⟨_, rfl⟩
 have HB0 := hid (laid1_b w (.cells m.m.arr 48))
 have HM0 : Hid (OM (w.alloc (.cells m.m.arr 48)) w.heap.size m.m) := hid (laid1_0 w _)
 have e1 := hm.1.lenP
 have e2 := hm.2.1.lenP
 have e3 := hm.2.2.lenP
 have HOn : Hid (∀ W : World, Calls Tryz.prog 42 #[.agg #[.int .i64 m.m.c.i, .int .i64 m.m.c.k, .int .i64 m.m.c.s, .int .i64 m.m.c.t, .int .i64 m.m.c.d, .int .i64 m.m.c.p, .int .i64 m.m.c.q]] W fun e w' => e = .returned (.bool ok) ∧ Below W.heap.size W w') := hid (fun W => by rw [hok]; exact rOne _ _ _ _ _ _ _ W)
 have HN1 : Hid (∀ W : World, Calls Tryz.prog 43 #[.int .i64 m.m.fr] W fun e w' => e = .returned (.bool n1) ∧ W = w') := hid (fun W => by rw [hn1]; exact rNode5 _ W)
 have HN2 : Hid (∀ W : World, Calls Tryz.prog 43 #[.int .i64 m.m.tt] W fun e w' => e = .returned (.bool n2) ∧ W = w') := hid (fun W => by rw [hn2]; exact rNode5 _ W)
 have HBB : Hid (∀ W : World, Calls Tryz.prog 44 #[.int .i64 m.m.bal] W fun e w' => e = .returned (.bool bb) ∧ W = w') := hid (fun W => by rw [hbb]; exact rBallot5 _ W)
 have HVF : Hid (∀ W : World, Below w.heap.size w W → Calls Tryz.prog 45 #[.agg #[.int .i64 m.m.vt, .slice m.m.vp.a m.m.vp.n m.m.vp.c]] W fun e w' => e = .returned (.bool vf) ∧ Below W.heap.size W w') := hid (fun W hW => by rw [hvf]; exact rFull5 _ (hm.1.on hW) hms.1)
 have HSV : Hid (∀ W : World, Calls Tryz.prog 46 #[.int .i64 m.m.s] W fun e w' => e = .returned (.bool sv) ∧ W = w') := hid (fun W => by rw [hsv]; exact rValid _ W)
 have HRS : Hid (∀ W : World, Below w.heap.size w W → Calls Tryz.prog 47 #[.agg m.m.arr, .bool false, .bool false] W fun e w' => e = .returned (.bool rs) ∧ Below W.heap.size W w') := hid (fun W hW => by rw [hrs]; exact rRest5 _ _ (hm.on hW))
 have HD : Hid (rightM m = (vf && (rs && decide (m.m.ab = 0)))) := hid (by rw [hvf, hrs]; exact right_C hg (.inl hs))
 obtain rfl : ok = true := hok.trans hg.1
 obtain rfl : n1 = true := hn1.trans hg.2.1
 obtain rfl : n2 = true := hn2.trans hg.2.2.1
 obtain rfl : bb = true := hbb.trans hg.2.2.2
 have s0 : (m.m.so == 0) = false := by rw [hs]; rfl
 have s1 : (m.m.so == 1) = false := by rw [hs]; rfl
 have s2 : (m.m.so == 2) = false := by rw [hs]; rfl
 have s5 : (m.m.so == 5) = true := by rw [hs]; rfl
 clear hok hn1 hn2 hbb hvf hsv hm hms e1 e2 e3 hg hs hrs
 go_enter Tryz.func19, Tryz.ntmps19
 go_upto_region 1 with fail
 generalize (w.alloc (.cells m.m.arr 48)) = W0 at HB0 HM0 ⊢
 obtain ⟨c0, c1, c2, c3, c4, c5, c6, c7, c8, c9, c10, c11, c12, c13, c14, c15, c16, c17, c18, c19⟩ := OM.cells20 HM0.out
 have tk1 : Hid (0 = 0) := hid rfl
 have tk2 : Hid (0 = 0) := hid rfl
 have tk3 : Hid (0 = 0) := hid rfl
 have tk4 : Hid (0 = 0) := hid rfl
 have tk5 : Hid (0 = 0) := hid rfl
 have tk6 : Hid (0 = 0) := hid rfl
 have tk7 : Hid (0 = 0) := hid rfl
 have tk8 : Hid (0 = 0) := hid rfl
 have tk9 : Hid (0 = 0) := hid rfl
 have tk10 : Hid (0 = 0) := hid rfl
 have tk11 : Hid (0 = 0) := hid rfl
 rcases vf with _ | _
 · as_aux_lemma =>
    go_wp2_with (first | (clear tk1; go_at_call 42; refine (HOn.out _).mono ?_; rintro e w1 ⟨rfl, hB⟩; have HB1 := hid (HB0.out.trans (hB.mono HB0.out.size)); have HM1 : Hid (OM w1 w.heap.size m.m) := hid (heapB HM0.out hB (Array.getElem?_eq_some_iff.1 HM0.out).1); clear hB; clear c0 c1 c2 c3 c4 c5 c6 c7 c8 c9 c10 c11 c12 c13 c14 c15 c16 c17 c18 c19; obtain ⟨c0, c1, c2, c3, c4, c5, c6, c7, c8, c9, c10, c11, c12, c13, c14, c15, c16, c17, c18, c19⟩ := OM.cells20 HM1.out) | (clear tk2; go_at_call 43; refine (HN1.out _).mono ?_; rintro e w' ⟨rfl, rfl⟩) | (clear tk3; go_at_call 43; refine (HN2.out _).mono ?_; rintro e w' ⟨rfl, rfl⟩) | (clear tk4; go_at_call 44; refine (HBB.out _).mono ?_; rintro e w' ⟨rfl, rfl⟩) | (clear tk5; go_at_call 45; refine (HVF.out _ HB1.out).mono ?_; rintro e w2 ⟨rfl, hB⟩; have HB2 := hid (HB1.out.trans (hB.mono HB1.out.size)); have HM2 : Hid (OM w2 w.heap.size m.m) := hid (heapB HM1.out hB (Array.getElem?_eq_some_iff.1 HM1.out).1); clear hB; clear c0 c1 c2 c3 c4 c5 c6 c7 c8 c9 c10 c11 c12 c13 c14 c15 c16 c17 c18 c19; obtain ⟨c0, c1, c2, c3, c4, c5, c6, c7, c8, c9, c10, c11, c12, c13, c14, c15, c16, c17, c18, c19⟩ := OM.cells20 HM2.out) | (clear tk6; go_at_call 46; refine (HSV.out _).mono ?_; rintro e w' ⟨rfl, rfl⟩) | fail)
    go_ret
    exact ⟨ret_bool (by rw [HD.out]; first | (simp; done) | (rw [Bool.eq_iff_iff]; simp; done)), HB2.out⟩
 · as_aux_lemma =>
    rcases rs with _ | _
    · as_aux_lemma =>
       go_wp2_with (first | (clear tk1; go_at_call 42; refine (HOn.out _).mono ?_; rintro e w1 ⟨rfl, hB⟩; have HB1 := hid (HB0.out.trans (hB.mono HB0.out.size)); have HM1 : Hid (OM w1 w.heap.size m.m) := hid (heapB HM0.out hB (Array.getElem?_eq_some_iff.1 HM0.out).1); clear hB; clear c0 c1 c2 c3 c4 c5 c6 c7 c8 c9 c10 c11 c12 c13 c14 c15 c16 c17 c18 c19; obtain ⟨c0, c1, c2, c3, c4, c5, c6, c7, c8, c9, c10, c11, c12, c13, c14, c15, c16, c17, c18, c19⟩ := OM.cells20 HM1.out) | (clear tk2; go_at_call 43; refine (HN1.out _).mono ?_; rintro e w' ⟨rfl, rfl⟩) | (clear tk3; go_at_call 43; refine (HN2.out _).mono ?_; rintro e w' ⟨rfl, rfl⟩) | (clear tk4; go_at_call 44; refine (HBB.out _).mono ?_; rintro e w' ⟨rfl, rfl⟩) | (clear tk5; go_at_call 45; refine (HVF.out _ HB1.out).mono ?_; rintro e w2 ⟨rfl, hB⟩; have HB2 := hid (HB1.out.trans (hB.mono HB1.out.size)); have HM2 : Hid (OM w2 w.heap.size m.m) := hid (heapB HM1.out hB (Array.getElem?_eq_some_iff.1 HM1.out).1); clear hB; clear c0 c1 c2 c3 c4 c5 c6 c7 c8 c9 c10 c11 c12 c13 c14 c15 c16 c17 c18 c19; obtain ⟨c0, c1, c2, c3, c4, c5, c6, c7, c8, c9, c10, c11, c12, c13, c14, c15, c16, c17, c18, c19⟩ := OM.cells20 HM2.out) | (clear tk6; go_at_call 46; refine (HSV.out _).mono ?_; rintro e w' ⟨rfl, rfl⟩) | ((with_reducible refine loadGM (x := ?lx7) (b := w.heap.size) m.m ?lg7 ?lo7 ?lxx7 ?lc7 ?lh7); (case lo7 => rfl); (case lg7 => rfl); (case lxx7 => rfl); (case lc7 => exact HM2.out)) | (clear tk7; go_at_call 47; refine (HRS.out _ HB2.out).mono ?_; rintro e w3 ⟨rfl, hB⟩; have HB3 := hid (HB2.out.trans (hB.mono HB2.out.size)); have HM3 : Hid (OM w3 w.heap.size m.m) := hid (heapB HM2.out hB (Array.getElem?_eq_some_iff.1 HM2.out).1); clear hB; clear c0 c1 c2 c3 c4 c5 c6 c7 c8 c9 c10 c11 c12 c13 c14 c15 c16 c17 c18 c19; obtain ⟨c0, c1, c2, c3, c4, c5, c6, c7, c8, c9, c10, c11, c12, c13, c14, c15, c16, c17, c18, c19⟩ := OM.cells20 HM3.out) | fail)
       go_ret
       exact ⟨ret_bool (by rw [HD.out]; first | (simp; done) | (rw [Bool.eq_iff_iff]; simp; done)), HB3.out⟩
    · as_aux_lemma =>
       go_wp2_with (first | (clear tk1; go_at_call 42; refine (HOn.out _).mono ?_; rintro e w1 ⟨rfl, hB⟩; have HB1 := hid (HB0.out.trans (hB.mono HB0.out.size)); have HM1 : Hid (OM w1 w.heap.size m.m) := hid (heapB HM0.out hB (Array.getElem?_eq_some_iff.1 HM0.out).1); clear hB; clear c0 c1 c2 c3 c4 c5 c6 c7 c8 c9 c10 c11 c12 c13 c14 c15 c16 c17 c18 c19; obtain ⟨c0, c1, c2, c3, c4, c5, c6, c7, c8, c9, c10, c11, c12, c13, c14, c15, c16, c17, c18, c19⟩ := OM.cells20 HM1.out) | (clear tk2; go_at_call 43; refine (HN1.out _).mono ?_; rintro e w' ⟨rfl, rfl⟩) | (clear tk3; go_at_call 43; refine (HN2.out _).mono ?_; rintro e w' ⟨rfl, rfl⟩) | (clear tk4; go_at_call 44; refine (HBB.out _).mono ?_; rintro e w' ⟨rfl, rfl⟩) | (clear tk5; go_at_call 45; refine (HVF.out _ HB1.out).mono ?_; rintro e w2 ⟨rfl, hB⟩; have HB2 := hid (HB1.out.trans (hB.mono HB1.out.size)); have HM2 : Hid (OM w2 w.heap.size m.m) := hid (heapB HM1.out hB (Array.getElem?_eq_some_iff.1 HM1.out).1); clear hB; clear c0 c1 c2 c3 c4 c5 c6 c7 c8 c9 c10 c11 c12 c13 c14 c15 c16 c17 c18 c19; obtain ⟨c0, c1, c2, c3, c4, c5, c6, c7, c8, c9, c10, c11, c12, c13, c14, c15, c16, c17, c18, c19⟩ := OM.cells20 HM2.out) | (clear tk6; go_at_call 46; refine (HSV.out _).mono ?_; rintro e w' ⟨rfl, rfl⟩) | ((with_reducible refine loadGM (x := ?lx8) (b := w.heap.size) m.m ?lg8 ?lo8 ?lxx8 ?lc8 ?lh8); (case lo8 => rfl); (case lg8 => rfl); (case lxx8 => rfl); (case lc8 => exact HM2.out)) | (clear tk7; go_at_call 47; refine (HRS.out _ HB2.out).mono ?_; rintro e w3 ⟨rfl, hB⟩; have HB3 := hid (HB2.out.trans (hB.mono HB2.out.size)); have HM3 : Hid (OM w3 w.heap.size m.m) := hid (heapB HM2.out hB (Array.getElem?_eq_some_iff.1 HM2.out).1); clear hB; clear c0 c1 c2 c3 c4 c5 c6 c7 c8 c9 c10 c11 c12 c13 c14 c15 c16 c17 c18 c19; obtain ⟨c0, c1, c2, c3, c4, c5, c6, c7, c8, c9, c10, c11, c12, c13, c14, c15, c16, c17, c18, c19⟩ := OM.cells20 HM3.out) | fail)
       go_ret
       exact ⟨ret_bool (by rw [HD.out]; first | (simp; done) | (rw [Bool.eq_iff_iff]; simp; done)), HB3.out⟩
set_option maxHeartbeats 16000000 in
set_option maxRecDepth 100000 in
theorem rR5_7 {w : World} {m : Ms} (hm : m.at w) (hms : m.short 1024) (hg : m.m.c.ok = true ∧ inB m.m.fr 9 = true ∧ inB m.m.tt 9 = true ∧ withinB m.m.bal 1048576 = true) (hs : m.m.so = 7) : Calls Tryz.prog 19 #[.agg m.m.arr] w fun e w' => e = .returned (.bool (rightM m)) ∧ Below w.heap.size w w' := by
 obtain ⟨ok, hok⟩ : ∃ z, z = m.m.c.ok := ⟨_, rfl⟩
 obtain ⟨n1, hn1⟩ : ∃ z, z = inB m.m.fr 9 := ⟨_, rfl⟩
 obtain ⟨n2, hn2⟩ : ∃ z, z = inB m.m.tt 9 := ⟨_, rfl⟩
 obtain ⟨bb, hbb⟩ : ∃ z, z = withinB m.m.bal 1048576 := ⟨_, rfl⟩
 obtain ⟨vf, hvf⟩ : ∃ z, z = fullB m.m.vt m.v := ⟨_, rfl⟩
 obtain ⟨sv, hsv⟩ : ∃ z, z = validB m.m.s := ⟨_, rfl⟩
 obtain ⟨rs, hrs⟩ : ∃ z, z = rstB m false false := ⟨_, rfl⟩
 have HB0 := hid (laid1_b w (.cells m.m.arr 48))
 have HM0 : Hid (OM (w.alloc (.cells m.m.arr 48)) w.heap.size m.m) := hid (laid1_0 w _)
 have e1 := hm.1.lenP
 have e2 := hm.2.1.lenP
 have e3 := hm.2.2.lenP
 have HOn : Hid (∀ W : World, Calls Tryz.prog 42 #[.agg #[.int .i64 m.m.c.i, .int .i64 m.m.c.k, .int .i64 m.m.c.s, .int .i64 m.m.c.t, .int .i64 m.m.c.d, .int .i64 m.m.c.p, .int .i64 m.m.c.q]] W fun e w' => e = .returned (.bool ok) ∧ Below W.heap.size W w') := hid (fun W => by rw [hok]; exact rOne _ _ _ _ _ _ _ W)
 have HN1 : Hid (∀ W : World, Calls Tryz.prog 43 #[.int .i64 m.m.fr] W fun e w' => e = .returned (.bool n1) ∧ W = w') := hid (fun W => by rw [hn1]; exact rNode5 _ W)
 have HN2 : Hid (∀ W : World, Calls Tryz.prog 43 #[.int .i64 m.m.tt] W fun e w' => e = .returned (.bool n2) ∧ W = w') := hid (fun W => by rw [hn2]; exact rNode5 _ W)
 have HBB : Hid (∀ W : World, Calls Tryz.prog 44 #[.int .i64 m.m.bal] W fun e w' => e = .returned (.bool bb) ∧ W = w') := hid (fun W => by rw [hbb]; exact rBallot5 _ W)
 have HVF : Hid (∀ W : World, Below w.heap.size w W → Calls Tryz.prog 45 #[.agg #[.int .i64 m.m.vt, .slice m.m.vp.a m.m.vp.n m.m.vp.c]] W fun e w' => e = .returned (.bool vf) ∧ Below W.heap.size W w') := hid (fun W hW => by rw [hvf]; exact rFull5 _ (hm.1.on hW) hms.1)
 have HSV : Hid (∀ W : World, Calls Tryz.prog 46 #[.int .i64 m.m.s] W fun e w' => e = .returned (.bool sv) ∧ W = w') := hid (fun W => by rw [hsv]; exact rValid _ W)
 have HRS : Hid (∀ W : World, Below w.heap.size w W → Calls Tryz.prog 47 #[.agg m.m.arr, .bool false, .bool false] W fun e w' => e = .returned (.bool rs) ∧ Below W.heap.size W w') := hid (fun W hW => by rw [hrs]; exact rRest5 _ _ (hm.on hW))
 have HD : Hid (rightM m = (vf && (rs && decide (m.m.ab = 0)))) := hid (by rw [hvf, hrs]; exact right_C hg (.inr hs))
 obtain rfl : ok = true := hok.trans hg.1
 obtain rfl : n1 = true := hn1.trans hg.2.1
 obtain rfl : n2 = true := hn2.trans hg.2.2.1
 obtain rfl : bb = true := hbb.trans hg.2.2.2
 have s0 : (m.m.so == 0) = false := by rw [hs]; rfl
 have s1 : (m.m.so == 1) = false := by rw [hs]; rfl
 have s2 : (m.m.so == 2) = false := by rw [hs]; rfl
 have s5 : (m.m.so == 5) = false := by rw [hs]; rfl
 have s7 : (m.m.so == 7) = true := by rw [hs]; rfl
 clear hok hn1 hn2 hbb hvf hsv hm hms e1 e2 e3 hg hs hrs
 go_enter Tryz.func19, Tryz.ntmps19
 go_upto_region 1 with fail
 generalize (w.alloc (.cells m.m.arr 48)) = W0 at HB0 HM0 ⊢
 obtain ⟨c0, c1, c2, c3, c4, c5, c6, c7, c8, c9, c10, c11, c12, c13, c14, c15, c16, c17, c18, c19⟩ := OM.cells20 HM0.out
 have tk1 : Hid (0 = 0) := hid rfl
 have tk2 : Hid (0 = 0) := hid rfl
 have tk3 : Hid (0 = 0) := hid rfl
 have tk4 : Hid (0 = 0) := hid rfl
 have tk5 : Hid (0 = 0) := hid rfl
 have tk6 : Hid (0 = 0) := hid rfl
 have tk7 : Hid (0 = 0) := hid rfl
 have tk8 : Hid (0 = 0) := hid rfl
 have tk9 : Hid (0 = 0) := hid rfl
 have tk10 : Hid (0 = 0) := hid rfl
 have tk11 : Hid (0 = 0) := hid rfl
 rcases vf with _ | _
 · as_aux_lemma =>
    go_wp2_with (first | (clear tk1; go_at_call 42; refine (HOn.out _).mono ?_; rintro e w1 ⟨rfl, hB⟩; have HB1 := hid (HB0.out.trans (hB.mono HB0.out.size)); have HM1 : Hid (OM w1 w.heap.size m.m) := hid (heapB HM0.out hB (Array.getElem?_eq_some_iff.1 HM0.out).1); clear hB; clear c0 c1 c2 c3 c4 c5 c6 c7 c8 c9 c10 c11 c12 c13 c14 c15 c16 c17 c18 c19; obtain ⟨c0, c1, c2, c3, c4, c5, c6, c7, c8, c9, c10, c11, c12, c13, c14, c15, c16, c17, c18, c19⟩ := OM.cells20 HM1.out) | (clear tk2; go_at_call 43; refine (HN1.out _).mono ?_; rintro e w' ⟨rfl, rfl⟩) | (clear tk3; go_at_call 43; refine (HN2.out _).mono ?_; rintro e w' ⟨rfl, rfl⟩) | (clear tk4; go_at_call 44; refine (HBB.out _).mono ?_; rintro e w' ⟨rfl, rfl⟩) | (clear tk5; go_at_call 45; refine (HVF.out _ HB1.out).mono ?_; rintro e w2 ⟨rfl, hB⟩; have HB2 := hid (HB1.out.trans (hB.mono HB1.out.size)); have HM2 : Hid (OM w2 w.heap.size m.m) := hid (heapB HM1.out hB (Array.getElem?_eq_some_iff.1 HM1.out).1); clear hB; clear c0 c1 c2 c3 c4 c5 c6 c7 c8 c9 c10 c11 c12 c13 c14 c15 c16 c17 c18 c19; obtain ⟨c0, c1, c2, c3, c4, c5, c6, c7, c8, c9, c10, c11, c12, c13, c14, c15, c16, c17, c18, c19⟩ := OM.cells20 HM2.out) | (clear tk6; go_at_call 46; refine (HSV.out _).mono ?_; rintro e w' ⟨rfl, rfl⟩) | fail)
    go_ret
    exact ⟨ret_bool (by rw [HD.out]; first | (simp; done) | (rw [Bool.eq_iff_iff]; simp; done)), HB2.out⟩
 · as_aux_lemma =>
    rcases rs with _ | _
    · as_aux_lemma =>
       go_wp2_with (first | (clear tk1; go_at_call 42; refine (HOn.out _).mono ?_; rintro e w1 ⟨rfl, hB⟩; have HB1 := hid (HB0.out.trans (hB.mono HB0.out.size)); have HM1 : Hid (OM w1 w.heap.size m.m) := hid (heapB HM0.out hB (Array.getElem?_eq_some_iff.1 HM0.out).1); clear hB; clear c0 c1 c2 c3 c4 c5 c6 c7 c8 c9 c10 c11 c12 c13 c14 c15 c16 c17 c18 c19; obtain ⟨c0, c1, c2, c3, c4, c5, c6, c7, c8, c9, c10, c11, c12, c13, c14, c15, c16, c17, c18, c19⟩ := OM.cells20 HM1.out) | (clear tk2; go_at_call 43; refine (HN1.out _).mono ?_; rintro e w' ⟨rfl, rfl⟩) | (clear tk3; go_at_call 43; refine (HN2.out _).mono ?_; rintro e w' ⟨rfl, rfl⟩) | (clear tk4; go_at_call 44; refine (HBB.out _).mono ?_; rintro e w' ⟨rfl, rfl⟩) | (clear tk5; go_at_call 45; refine (HVF.out _ HB1.out).mono ?_; rintro e w2 ⟨rfl, hB⟩; have HB2 := hid (HB1.out.trans (hB.mono HB1.out.size)); have HM2 : Hid (OM w2 w.heap.size m.m) := hid (heapB HM1.out hB (Array.getElem?_eq_some_iff.1 HM1.out).1); clear hB; clear c0 c1 c2 c3 c4 c5 c6 c7 c8 c9 c10 c11 c12 c13 c14 c15 c16 c17 c18 c19; obtain ⟨c0, c1, c2, c3, c4, c5, c6, c7, c8, c9, c10, c11, c12, c13, c14, c15, c16, c17, c18, c19⟩ := OM.cells20 HM2.out) | (clear tk6; go_at_call 46; refine (HSV.out _).mono ?_; rintro e w' ⟨rfl, rfl⟩) | ((with_reducible refine loadGM (x := ?lx9) (b := w.heap.size) m.m ?lg9 ?lo9 ?lxx9 ?lc9 ?lh9); (case lo9 => rfl); (case lg9 => rfl); (case lxx9 => rfl); (case lc9 => exact HM2.out)) | (clear tk7; go_at_call 47; refine (HRS.out _ HB2.out).mono ?_; rintro e w3 ⟨rfl, hB⟩; have HB3 := hid (HB2.out.trans (hB.mono HB2.out.size)); have HM3 : Hid (OM w3 w.heap.size m.m) := hid (heapB HM2.out hB (Array.getElem?_eq_some_iff.1 HM2.out).1); clear hB; clear c0 c1 c2 c3 c4 c5 c6 c7 c8 c9 c10 c11 c12 c13 c14 c15 c16 c17 c18 c19; obtain ⟨c0, c1, c2, c3, c4, c5, c6, c7, c8, c9, c10, c11, c12, c13, c14, c15, c16, c17, c18, c19⟩ := OM.cells20 HM3.out) | fail)
       go_ret
       exact ⟨ret_bool (by rw [HD.out]; first | (simp; done) | (rw [Bool.eq_iff_iff]; simp; done)), HB3.out⟩
    · as_aux_lemma =>
       go_wp2_with (first | (clear tk1; go_at_call 42; refine (HOn.out _).mono ?_; rintro e w1 ⟨rfl, hB⟩; have HB1 := hid (HB0.out.trans (hB.mono HB0.out.size)); have HM1 : Hid (OM w1 w.heap.size m.m) := hid (heapB HM0.out hB (Array.getElem?_eq_some_iff.1 HM0.out).1); clear hB; clear c0 c1 c2 c3 c4 c5 c6 c7 c8 c9 c10 c11 c12 c13 c14 c15 c16 c17 c18 c19; obtain ⟨c0, c1, c2, c3, c4, c5, c6, c7, c8, c9, c10, c11, c12, c13, c14, c15, c16, c17, c18, c19⟩ := OM.cells20 HM1.out) | (clear tk2; go_at_call 43; refine (HN1.out _).mono ?_; rintro e w' ⟨rfl, rfl⟩) | (clear tk3; go_at_call 43; refine (HN2.out _).mono ?_; rintro e w' ⟨rfl, rfl⟩) | (clear tk4; go_at_call 44; refine (HBB.out _).mono ?_; rintro e w' ⟨rfl, rfl⟩) | (clear tk5; go_at_call 45; refine (HVF.out _ HB1.out).mono ?_; rintro e w2 ⟨rfl, hB⟩; have HB2 := hid (HB1.out.trans (hB.mono HB1.out.size)); have HM2 : Hid (OM w2 w.heap.size m.m) := hid (heapB HM1.out hB (Array.getElem?_eq_some_iff.1 HM1.out).1); clear hB; clear c0 c1 c2 c3 c4 c5 c6 c7 c8 c9 c10 c11 c12 c13 c14 c15 c16 c17 c18 c19; obtain ⟨c0, c1, c2, c3, c4, c5, c6, c7, c8, c9, c10, c11, c12, c13, c14, c15, c16, c17, c18, c19⟩ := OM.cells20 HM2.out) | (clear tk6; go_at_call 46; refine (HSV.out _).mono ?_; rintro e w' ⟨rfl, rfl⟩) | ((with_reducible refine loadGM (x := ?lx10) (b := w.heap.size) m.m ?lg10 ?lo10 ?lxx10 ?lc10 ?lh10); (case lo10 => rfl); (case lg10 => rfl); (case lxx10 => rfl); (case lc10 => exact HM2.out)) | (clear tk7; go_at_call 47; refine (HRS.out _ HB2.out).mono ?_; rintro e w3 ⟨rfl, hB⟩; have HB3 := hid (HB2.out.trans (hB.mono HB2.out.size)); have HM3 : Hid (OM w3 w.heap.size m.m) := hid (heapB HM2.out hB (Array.getElem?_eq_some_iff.1 HM2.out).1); clear hB; clear c0 c1 c2 c3 c4 c5 c6 c7 c8 c9 c10 c11 c12 c13 c14 c15 c16 c17 c18 c19; obtain ⟨c0, c1, c2, c3, c4, c5, c6, c7, c8, c9, c10, c11, c12, c13, c14, c15, c16, c17, c18, c19⟩ := OM.cells20 HM3.out) | fail)
       go_ret
       exact ⟨ret_bool (by rw [HD.out]; first | (simp; done) | (rw [Bool.eq_iff_iff]; simp; done)), HB3.out⟩
set_option maxHeartbeats 16000000 in
set_option maxRecDepth 100000 in
theorem rR5_2 {w : World} {m : Ms} (hm : m.at w) (hms : m.short 1024) (hg : m.m.c.ok = true ∧ inB m.m.fr 9 = true ∧ inB m.m.tt 9 = true ∧ withinB m.m.bal 1048576 = true) (hs : m.m.so = 2) : Calls Tryz.prog 19 #[.agg m.m.arr] w fun e w' => e = .returned (.bool (rightM m)) ∧ Below w.heap.size w w' := by
 obtain ⟨ok, hok⟩ : ∃ z, z = m.m.c.ok := ⟨_, rfl⟩
 obtain ⟨n1, hn1⟩ : ∃ z, z = inB m.m.fr 9 := ⟨_, rfl⟩
 obtain ⟨n2, hn2⟩ : ∃ z, z = inB m.m.tt 9 := ⟨_, rfl⟩
 obtain ⟨bb, hbb⟩ : ∃ z, z = withinB m.m.bal 1048576 := ⟨_, rfl⟩
 obtain ⟨vf, hvf⟩ : ∃ z, z = fullB m.m.vt m.v := ⟨_, rfl⟩
 obtain ⟨sv, hsv⟩ : ∃ z, z = validB m.m.s := ⟨_, rfl⟩
 obtain ⟨rs, hrs⟩ : ∃ z, z = rstB m true false := ⟨_, rfl⟩
 have HB0 := hid (laid1_b w (.cells m.m.arr 48))
 have HM0 : Hid (OM (w.alloc (.cells m.m.arr 48)) w.heap.size m.m) := hid (laid1_0 w _)
 have e1 := hm.1.lenP
 have e2 := hm.2.1.lenP
 have e3 := hm.2.2.lenP
 have HOn : Hid (∀ W : World, Calls Tryz.prog 42 #[.agg #[.int .i64 m.m.c.i, .int .i64 m.m.c.k, .int .i64 m.m.c.s, .int .i64 m.m.c.t, .int .i64 m.m.c.d, .int .i64 m.m.c.p, .int .i64 m.m.c.q]] W fun e w' => e = .returned (.bool ok) ∧ Below W.heap.size W w') := hid (fun W => by rw [hok]; exact rOne _ _ _ _ _ _ _ W)
 have HN1 : Hid (∀ W : World, Calls Tryz.prog 43 #[.int .i64 m.m.fr] W fun e w' => e = .returned (.bool n1) ∧ W = w') := hid (fun W => by rw [hn1]; exact rNode5 _ W)
 have HN2 : Hid (∀ W : World, Calls Tryz.prog 43 #[.int .i64 m.m.tt] W fun e w' => e = .returned (.bool n2) ∧ W = w') := hid (fun W => by rw [hn2]; exact rNode5 _ W)
 have HBB : Hid (∀ W : World, Calls Tryz.prog 44 #[.int .i64 m.m.bal] W fun e w' => e = .returned (.bool bb) ∧ W = w') := hid (fun W => by rw [hbb]; exact rBallot5 _ W)
 have HVF : Hid (∀ W : World, Below w.heap.size w W → Calls Tryz.prog 45 #[.agg #[.int .i64 m.m.vt, .slice m.m.vp.a m.m.vp.n m.m.vp.c]] W fun e w' => e = .returned (.bool vf) ∧ Below W.heap.size W w') := hid (fun W hW => by rw [hvf]; exact rFull5 _ (hm.1.on hW) hms.1)
 have HSV : Hid (∀ W : World, Calls Tryz.prog 46 #[.int .i64 m.m.s] W fun e w' => e = .returned (.bool sv) ∧ W = w') := hid (fun W => by rw [hsv]; exact rValid _ W)
 have HRS : Hid (∀ W : World, Below w.heap.size w W → Calls Tryz.prog 47 #[.agg m.m.arr, .bool true, .bool false] W fun e w' => e = .returned (.bool rs) ∧ Below W.heap.size W w') := hid (fun W hW => by rw [hrs]; exact rRest5 _ _ (hm.on hW))
 have HD : Hid (rightM m = (vf && (sv && (rs && decide (m.m.ab = 0))))) := hid (by rw [hvf, hsv, hrs]; exact right_B hg hs)
 obtain rfl : ok = true := hok.trans hg.1
 obtain rfl : n1 = true := hn1.trans hg.2.1
 obtain rfl : n2 = true := hn2.trans hg.2.2.1
 obtain rfl : bb = true := hbb.trans hg.2.2.2
 have s0 : (m.m.so == 0) = false := by rw [hs]; rfl
 have s1 : (m.m.so == 1) = false := by rw [hs]; rfl
 have s2 : (m.m.so == 2) = true := by rw [hs]; rfl
 clear hok hn1 hn2 hbb hvf hsv hm hms e1 e2 e3 hg hs hrs
 go_enter Tryz.func19, Tryz.ntmps19
 go_upto_region 1 with fail
 generalize (w.alloc (.cells m.m.arr 48)) = W0 at HB0 HM0 ⊢
 obtain ⟨c0, c1, c2, c3, c4, c5, c6, c7, c8, c9, c10, c11, c12, c13, c14, c15, c16, c17, c18, c19⟩ := OM.cells20 HM0.out
 have tk1 : Hid (0 = 0) := hid rfl
 have tk2 : Hid (0 = 0) := hid rfl
 have tk3 : Hid (0 = 0) := hid rfl
 have tk4 : Hid (0 = 0) := hid rfl
 have tk5 : Hid (0 = 0) := hid rfl
 have tk6 : Hid (0 = 0) := hid rfl
 have tk7 : Hid (0 = 0) := hid rfl
 have tk8 : Hid (0 = 0) := hid rfl
 have tk9 : Hid (0 = 0) := hid rfl
 have tk10 : Hid (0 = 0) := hid rfl
 have tk11 : Hid (0 = 0) := hid rfl
 rcases vf with _ | _
 · as_aux_lemma =>
    go_wp2_with (first | (clear tk1; go_at_call 42; refine (HOn.out _).mono ?_; rintro e w1 ⟨rfl, hB⟩; have HB1 := hid (HB0.out.trans (hB.mono HB0.out.size)); have HM1 : Hid (OM w1 w.heap.size m.m) := hid (heapB HM0.out hB (Array.getElem?_eq_some_iff.1 HM0.out).1); clear hB; clear c0 c1 c2 c3 c4 c5 c6 c7 c8 c9 c10 c11 c12 c13 c14 c15 c16 c17 c18 c19; obtain ⟨c0, c1, c2, c3, c4, c5, c6, c7, c8, c9, c10, c11, c12, c13, c14, c15, c16, c17, c18, c19⟩ := OM.cells20 HM1.out) | (clear tk2; go_at_call 43; refine (HN1.out _).mono ?_; rintro e w' ⟨rfl, rfl⟩) | (clear tk3; go_at_call 43; refine (HN2.out _).mono ?_; rintro e w' ⟨rfl, rfl⟩) | (clear tk4; go_at_call 44; refine (HBB.out _).mono ?_; rintro e w' ⟨rfl, rfl⟩) | (clear tk5; go_at_call 45; refine (HVF.out _ HB1.out).mono ?_; rintro e w2 ⟨rfl, hB⟩; have HB2 := hid (HB1.out.trans (hB.mono HB1.out.size)); have HM2 : Hid (OM w2 w.heap.size m.m) := hid (heapB HM1.out hB (Array.getElem?_eq_some_iff.1 HM1.out).1); clear hB; clear c0 c1 c2 c3 c4 c5 c6 c7 c8 c9 c10 c11 c12 c13 c14 c15 c16 c17 c18 c19; obtain ⟨c0, c1, c2, c3, c4, c5, c6, c7, c8, c9, c10, c11, c12, c13, c14, c15, c16, c17, c18, c19⟩ := OM.cells20 HM2.out) | (clear tk6; go_at_call 46; refine (HSV.out _).mono ?_; rintro e w' ⟨rfl, rfl⟩) | fail)
    go_ret
    exact ⟨ret_bool (by rw [HD.out]; first | (simp; done) | (rw [Bool.eq_iff_iff]; simp; done)), HB2.out⟩
 · as_aux_lemma =>
    rcases sv with _ | _
    · as_aux_lemma =>
       go_wp2_with (first | (clear tk1; go_at_call 42; refine (HOn.out _).mono ?_; rintro e w1 ⟨rfl, hB⟩; have HB1 := hid (HB0.out.trans (hB.mono HB0.out.size)); have HM1 : Hid (OM w1 w.heap.size m.m) := hid (heapB HM0.out hB (Array.getElem?_eq_some_iff.1 HM0.out).1); clear hB; clear c0 c1 c2 c3 c4 c5 c6 c7 c8 c9 c10 c11 c12 c13 c14 c15 c16 c17 c18 c19; obtain ⟨c0, c1, c2, c3, c4, c5, c6, c7, c8, c9, c10, c11, c12, c13, c14, c15, c16, c17, c18, c19⟩ := OM.cells20 HM1.out) | (clear tk2; go_at_call 43; refine (HN1.out _).mono ?_; rintro e w' ⟨rfl, rfl⟩) | (clear tk3; go_at_call 43; refine (HN2.out _).mono ?_; rintro e w' ⟨rfl, rfl⟩) | (clear tk4; go_at_call 44; refine (HBB.out _).mono ?_; rintro e w' ⟨rfl, rfl⟩) | (clear tk5; go_at_call 45; refine (HVF.out _ HB1.out).mono ?_; rintro e w2 ⟨rfl, hB⟩; have HB2 := hid (HB1.out.trans (hB.mono HB1.out.size)); have HM2 : Hid (OM w2 w.heap.size m.m) := hid (heapB HM1.out hB (Array.getElem?_eq_some_iff.1 HM1.out).1); clear hB; clear c0 c1 c2 c3 c4 c5 c6 c7 c8 c9 c10 c11 c12 c13 c14 c15 c16 c17 c18 c19; obtain ⟨c0, c1, c2, c3, c4, c5, c6, c7, c8, c9, c10, c11, c12, c13, c14, c15, c16, c17, c18, c19⟩ := OM.cells20 HM2.out) | (clear tk6; go_at_call 46; refine (HSV.out _).mono ?_; rintro e w' ⟨rfl, rfl⟩) | fail)
       go_ret
       exact ⟨ret_bool (by rw [HD.out]; first | (simp; done) | (rw [Bool.eq_iff_iff]; simp; done)), HB2.out⟩
    · as_aux_lemma =>
       rcases rs with _ | _
       · as_aux_lemma =>
          go_wp2_with (first | (clear tk1; go_at_call 42; refine (HOn.out _).mono ?_; rintro e w1 ⟨rfl, hB⟩; have HB1 := hid (HB0.out.trans (hB.mono HB0.out.size)); have HM1 : Hid (OM w1 w.heap.size m.m) := hid (heapB HM0.out hB (Array.getElem?_eq_some_iff.1 HM0.out).1); clear hB; clear c0 c1 c2 c3 c4 c5 c6 c7 c8 c9 c10 c11 c12 c13 c14 c15 c16 c17 c18 c19; obtain ⟨c0, c1, c2, c3, c4, c5, c6, c7, c8, c9, c10, c11, c12, c13, c14, c15, c16, c17, c18, c19⟩ := OM.cells20 HM1.out) | (clear tk2; go_at_call 43; refine (HN1.out _).mono ?_; rintro e w' ⟨rfl, rfl⟩) | (clear tk3; go_at_call 43; refine (HN2.out _).mono ?_; rintro e w' ⟨rfl, rfl⟩) | (clear tk4; go_at_call 44; refine (HBB.out _).mono ?_; rintro e w' ⟨rfl, rfl⟩) | (clear tk5; go_at_call 45; refine (HVF.out _ HB1.out).mono ?_; rintro e w2 ⟨rfl, hB⟩; have HB2 := hid (HB1.out.trans (hB.mono HB1.out.size)); have HM2 : Hid (OM w2 w.heap.size m.m) := hid (heapB HM1.out hB (Array.getElem?_eq_some_iff.1 HM1.out).1); clear hB; clear c0 c1 c2 c3 c4 c5 c6 c7 c8 c9 c10 c11 c12 c13 c14 c15 c16 c17 c18 c19; obtain ⟨c0, c1, c2, c3, c4, c5, c6, c7, c8, c9, c10, c11, c12, c13, c14, c15, c16, c17, c18, c19⟩ := OM.cells20 HM2.out) | (clear tk6; go_at_call 46; refine (HSV.out _).mono ?_; rintro e w' ⟨rfl, rfl⟩) | ((with_reducible refine loadGM (x := ?lx11) (b := w.heap.size) m.m ?lg11 ?lo11 ?lxx11 ?lc11 ?lh11); (case lo11 => rfl); (case lg11 => rfl); (case lxx11 => rfl); (case lc11 => exact HM2.out)) | (clear tk7; go_at_call 47; refine (HRS.out _ HB2.out).mono ?_; rintro e w3 ⟨rfl, hB⟩; have HB3 := hid (HB2.out.trans (hB.mono HB2.out.size)); have HM3 : Hid (OM w3 w.heap.size m.m) := hid (heapB HM2.out hB (Array.getElem?_eq_some_iff.1 HM2.out).1); clear hB; clear c0 c1 c2 c3 c4 c5 c6 c7 c8 c9 c10 c11 c12 c13 c14 c15 c16 c17 c18 c19; obtain ⟨c0, c1, c2, c3, c4, c5, c6, c7, c8, c9, c10, c11, c12, c13, c14, c15, c16, c17, c18, c19⟩ := OM.cells20 HM3.out) | fail)
          go_ret
          exact ⟨ret_bool (by rw [HD.out]; first | (simp; done) | (rw [Bool.eq_iff_iff]; simp; done)), HB3.out⟩
       · as_aux_lemma =>
          go_wp2_with (first | (clear tk1; go_at_call 42; refine (HOn.out _).mono ?_; rintro e w1 ⟨rfl, hB⟩; have HB1 := hid (HB0.out.trans (hB.mono HB0.out.size)); have HM1 : Hid (OM w1 w.heap.size m.m) := hid (heapB HM0.out hB (Array.getElem?_eq_some_iff.1 HM0.out).1); clear hB; clear c0 c1 c2 c3 c4 c5 c6 c7 c8 c9 c10 c11 c12 c13 c14 c15 c16 c17 c18 c19; obtain ⟨c0, c1, c2, c3, c4, c5, c6, c7, c8, c9, c10, c11, c12, c13, c14, c15, c16, c17, c18, c19⟩ := OM.cells20 HM1.out) | (clear tk2; go_at_call 43; refine (HN1.out _).mono ?_; rintro e w' ⟨rfl, rfl⟩) | (clear tk3; go_at_call 43; refine (HN2.out _).mono ?_; rintro e w' ⟨rfl, rfl⟩) | (clear tk4; go_at_call 44; refine (HBB.out _).mono ?_; rintro e w' ⟨rfl, rfl⟩) | (clear tk5; go_at_call 45; refine (HVF.out _ HB1.out).mono ?_; rintro e w2 ⟨rfl, hB⟩; have HB2 := hid (HB1.out.trans (hB.mono HB1.out.size)); have HM2 : Hid (OM w2 w.heap.size m.m) := hid (heapB HM1.out hB (Array.getElem?_eq_some_iff.1 HM1.out).1); clear hB; clear c0 c1 c2 c3 c4 c5 c6 c7 c8 c9 c10 c11 c12 c13 c14 c15 c16 c17 c18 c19; obtain ⟨c0, c1, c2, c3, c4, c5, c6, c7, c8, c9, c10, c11, c12, c13, c14, c15, c16, c17, c18, c19⟩ := OM.cells20 HM2.out) | (clear tk6; go_at_call 46; refine (HSV.out _).mono ?_; rintro e w' ⟨rfl, rfl⟩) | ((with_reducible refine loadGM (x := ?lx12) (b := w.heap.size) m.m ?lg12 ?lo12 ?lxx12 ?lc12 ?lh12); (case lo12 => rfl); (case lg12 => rfl); (case lxx12 => rfl); (case lc12 => exact HM2.out)) | (clear tk7; go_at_call 47; refine (HRS.out _ HB2.out).mono ?_; rintro e w3 ⟨rfl, hB⟩; have HB3 := hid (HB2.out.trans (hB.mono HB2.out.size)); have HM3 : Hid (OM w3 w.heap.size m.m) := hid (heapB HM2.out hB (Array.getElem?_eq_some_iff.1 HM2.out).1); clear hB; clear c0 c1 c2 c3 c4 c5 c6 c7 c8 c9 c10 c11 c12 c13 c14 c15 c16 c17 c18 c19; obtain ⟨c0, c1, c2, c3, c4, c5, c6, c7, c8, c9, c10, c11, c12, c13, c14, c15, c16, c17, c18, c19⟩ := OM.cells20 HM3.out) | fail)
          go_ret
          exact ⟨ret_bool (by rw [HD.out]; first | (simp; done) | (rw [Bool.eq_iff_iff]; simp; done)), HB3.out⟩
end Go.Proofs.YtplodoindppleaaGreat
