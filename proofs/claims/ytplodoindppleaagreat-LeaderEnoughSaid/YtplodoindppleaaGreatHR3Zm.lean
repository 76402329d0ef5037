import Derived.Test.YtplodoindppleaaGreatHR0Zm
namespace Go.Proofs.YtplodoindppleaaGreat
set_option linter.unusedVariables false
open Go.RowKit
open Go.Lib (hid)
set_option maxHeartbeats 16000000 in
set_option maxRecDepth 100000 in
theorem rR5_3 {w : World} {m : Ms} (hm : m.at w) (hms : m.short 1024) (hg : m.m.c.ok = true ∧ inB m.m.fr 9 = true ∧ inB m.m.tt 9 = true ∧ withinB m.m.bal 1048576 = true) (hs : m.m.so = 3) : Calls Tryz.prog 19 #[.agg m.m.arr] w fun e w' => e = .returned (.bool (rightM m)) ∧ Below w.heap.size w w' := by
 obtain ⟨ok, hok⟩ : ∃ z, z = m.m.c.ok := ⟨_, rfl⟩
 obtain ⟨n1, hn1⟩ : ∃ z, z = inB m.m.fr 9 := ⟨_, rfl⟩
 obtain ⟨n2, hn2⟩ : ∃ z, z = inB m.m.tt 9 := ⟨_, rfl⟩
 obtain ⟨bb, hbb⟩ : ∃ z, z = withinB m.m.bal 1048576 := ⟨_, rfl⟩
 obtain ⟨vf, hvf⟩ : ∃ z, z = fullB m.m.vt m.v := ⟨_, rfl⟩
 obtain ⟨sv, hsv⟩ : ∃ z, z = validB m.m.s := ⟨_, rfl⟩
 obtain ⟨rs, hrs⟩ : ∃ z, z = rstB m false false := ⟨_, rfl⟩
 obtain ⟨nv, hnv⟩ : ∃ z, z = noneB m.m.vt m.v := ⟨_, rfl⟩
 have HB0 := hid (laid1_b w (.cells m.m.arr 48))
 have HM0 : Hid (OM (w.alloc (.cells m.m.arr 48)) w.heap.size m.m) := hid (laid1_0 w _)
 have e1 := hm.1.lenP
 have e2 := hm.2.1.lenP
 have e3 := hm.2.2.lenP
 have HOn : Hid (∀ W : World, Calls Tryz.prog 42 #[.agg #[.int .i64 m.m.c.i, .int .i64 m.m.c.k, .int .i64 m.m.c.s, .int .i64 m.m.c.t, .int .i64 m.m.c.d, .int .i64 m.m.c.p, .int .i64 m.m.c.q]] W fun e w' => e = .returned (.bool ok) ∧ Below W.heap.size W w') := hid (fun W => by rw [hok]; exact rOne _ _ _ _ _ _ _ W)
 have HN1 : Hid (∀ W : World, Calls Tryz.prog 43 #[.int .i64 m.m.fr] W fun e w' => e = .returned (.bool n1) ∧ W = w') := hid (fun W => by rw [hn1]; exact rNode5 _ W)
 have HN2 : Hid (∀ W : World, Calls Tryz.prog 43 #[.int .i64 m.m.tt] W fun e w' => e = .returned (.bool n2) ∧ W = w') := hid (fun W => by rw [hn2]; exact rNode5 _ W)
 have HBB : Hid (∀ W : World, Calls Tryz.prog 44 #[.int .i64 m.m.bal] W fun e w' => e = .returned (.bool bb) ∧ W = w') := hid (fun W => by rw [hbb]; exact rBallot5 _ W)
 have HVF : Hid (∀ W : World, Below w.heap.size w W → Calls Tryz.prog 45 #[.agg #[.int .i64 m.m.vt, .slice m.m.vp.a m.m.vp.n m.m.vp.c]] W fun e w' => e = .returned (.bool vf) ∧ Below W.heap.size W w') := hid (fun W hW => by rw [hvf]; exact rFull5 _ (hm.1.on hW) hms.1)
 have HSV : Hid (∀ W : World, Calls Tryz.prog 46 #[.int .i64 m.m.s] W fun e w' => e = .returned (.bool sv) ∧ W = w') := hid (fun W => by rw [hsv]; exact rValid _ W)
 have HRS : Hid (∀ W : World, Below w.heap.size w W → Calls Tryz.prog 47 #[.agg m.m.arr, .bool false, .bool false] W fun e w' => e = .returned (.bool rs) ∧ Below W.heap.size W w') := hid (fun W hW => by rw [hrs]; exact rRest5 _ _ (hm.on hW))
 have HNV : Hid (∀ W : World, Calls Tryz.prog 48 #[.agg #[.int .i64 m.m.vt, .slice m.m.vp.a m.m.vp.n m.m.vp.c]] W fun e w' => e = .returned (.bool nv) ∧ Below W.heap.size W w') := hid (fun W => by rw [hnv]; exact rNone5 _ e1)
 have HD : Hid (rightM m = (nv && (rs && decide (m.m.ab = 0)))) := hid (by rw [hnv, hrs]; exact right_D hg (.inl hs))
 obtain rfl : ok = true := hok.trans hg.1
 obtain rfl : n1 = true := hn1.trans hg.2.1
 obtain rfl : n2 = true := hn2.trans hg.2.2.1
 obtain rfl : bb = true := hbb.trans hg.2.2.2
 have s0 : (m.m.so == 0) = false := by rw [hs]; rfl
 have s1 : (m.m.so == 1) = false := by rw [hs]; rfl
 have s2 : (m.m.so == 2) = false := by rw [hs]; rfl
 have s5 : (m.m.so == 5) = false := by rw [hs]; rfl
 have s7 : (m.m.so == 7) = false := by rw [hs]; rfl
 have s3 : (m.m.so == 3) = true := by rw [hs]; rfl
 clear hok hn1 hn2 hbb hvf hsv hm hms e1 e2 e3 hg hs hrs hnv
 go_enter Tryz.func19, Tryz.ntmps19
 go_upto_region 1 with fail
 generalize (w.alloc (.cells m.m.arr 48)) = W0 at HB0 HM0 ⊢
 obtain ⟨c0, c1, c2, c3, c4, c5, c6, c7, c8, c9, c10, c11, c12, c13, c14, c15, c16, c17, c18, c19⟩ := OM.cells20 HM0.out
 have tk1 : Hid (0 = 0) := hid rfl
 have tk2 : Hid (0 = 0) := hid rfl
 have tk3 : Hid (0 = 0) := hid rfl
 have tk4 : Hid (0 = 0) := hid rfl
 have tk5 : Hid (0 = 0) := hid rfl
 have tk6 : Hid (0 = 0) := hid rfl
 have tk7 : Hid (0 = 0) := hid rfl
 have tk8 : Hid (0 = 0) := hid rfl
 have tk9 : Hid (0 = 0) := hid rfl
 have tk10 : Hid (0 = 0) := hid rfl
 have tk11 : Hid (0 = 0) := hid rfl
 rcases nv with _ | _
 · as_aux_lemma =>
    go_wp2_with (first | (clear tk1; go_at_call 42; refine (HOn.out _).mono ?_; rintro e w1 ⟨rfl, hB⟩; have HB1 := hid (HB0.out.trans (hB.mono HB0.out.size)); have HM1 : Hid (OM w1 w.heap.size m.m) := hid (heapB HM0.out hB (Array.getElem?_eq_some_iff.1 HM0.out).1); clear hB; clear c0 c1 c2 c3 c4 c5 c6 c7 c8 c9 c10 c11 c12 c13 c14 c15 c16 c17 c18 c19; obtain ⟨c0, c1, c2, c3, c4, c5, c6, c7, c8, c9, c10, c11, c12, c13, c14, c15, c16, c17, c18, c19⟩ := OM.cells20 HM1.out) | (clear tk2; go_at_call 43; refine (HN1.out _).mono ?_; rintro e w' ⟨rfl, rfl⟩) | (clear tk3; go_at_call 43; refine (HN2.out _).mono ?_; rintro e w' ⟨rfl, rfl⟩) | (clear tk4; go_at_call 44; refine (HBB.out _).mono ?_; rintro e w' ⟨rfl, rfl⟩) | (clear tk5; go_at_call 45; refine (HVF.out _ HB1.out).mono ?_; rintro e w2 ⟨rfl, hB⟩; have HB2 := hid (HB1.out.trans (hB.mono HB1.out.size)); have HM2 : Hid (OM w2 w.heap.size m.m) := hid (heapB HM1.out hB (Array.getElem?_eq_some_iff.1 HM1.out).1); clear hB; clear c0 c1 c2 c3 c4 c5 c6 c7 c8 c9 c10 c11 c12 c13 c14 c15 c16 c17 c18 c19; obtain ⟨c0, c1, c2, c3, c4, c5, c6, c7, c8, c9, c10, c11, c12, c13, c14, c15, c16, c17, c18, c19⟩ := OM.cells20 HM2.out) | (clear tk6; go_at_call 46; refine (HSV.out _).mono ?_; rintro e w' ⟨rfl, rfl⟩) | (clear tk8; go_at_call 48; refine (HNV.out _).mono ?_; rintro e w3 ⟨rfl, hB⟩; have HB3 := hid (HB2.out.trans (hB.mono HB2.out.size)); have HM3 : Hid (OM w3 w.heap.size m.m) := hid (heapB HM2.out hB (Array.getElem?_eq_some_iff.1 HM2.out).1); clear hB; clear c0 c1 c2 c3 c4 c5 c6 c7 c8 c9 c10 c11 c12 c13 c14 c15 c16 c17 c18 c19; obtain ⟨c0, c1, c2, c3, c4, c5, c6, c7, c8, c9, c10, c11, c12, c13, c14, c15, c16, c17, c18, c19⟩ := OM.cells20 HM3.out) | fail)
    go_ret
    exact ⟨ret_bool (by rw [HD.out]; first | (simp; done) | (rw [Bool.eq_iff_iff]; simp; done)), HB3.out⟩
 · as_aux_lemma =>
    rcases rs with _ | _
    · as_aux_lemma =>
       go_wp2_with (first | (clear tk1; go_at_call 42; refine (HOn.out _).mono ?_; rintro e w1 ⟨rfl, hB⟩; have HB1 := hid (HB0.out.trans (hB.mono HB0.out.size)); have HM1 : Hid (OM w1 w.heap.size m.m) := hid (heapB HM0.out hB (Array.getElem?_eq_some_iff.1 HM0.out).1); clear hB; clear c0 c1 c2 c3 c4 c5 c6 c7 c8 c9 c10 c11 c12 c13 c14 c15 c16 c17 c18 c19; obtain ⟨c0, c1, c2, c3, c4, c5, c6, c7, c8, c9, c10, c11, c12, c13, c14, c15, c16, c17, c18, c19⟩ := OM.cells20 HM1.out) | (clear tk2; go_at_call 43; refine (HN1.out _).mono ?_; rintro e w' ⟨rfl, rfl⟩) | (clear tk3; go_at_call 43; refine (HN2.out _).mono ?_; rintro e w' ⟨rfl, rfl⟩) | (clear tk4; go_at_call 44; refine (HBB.out _).mono ?_; rintro e w' ⟨rfl, rfl⟩) | (clear tk5; go_at_call 45; refine (HVF.out _ HB1.out).mono ?_; rintro e w2 ⟨rfl, hB⟩; have HB2 := hid (HB1.out.trans (hB.mono HB1.out.size)); have HM2 : Hid (OM w2 w.heap.size m.m) := hid (heapB HM1.out hB (Array.getElem?_eq_some_iff.1 HM1.out).1); clear hB; clear c0 c1 c2 c3 c4 c5 c6 c7 c8 c9 c10 c11 c12 c13 c14 c15 c16 c17 c18 c19; obtain ⟨c0, c1, c2, c3, c4, c5, c6, c7, c8, c9, c10, c11, c12, c13, c14, c15, c16, c17, c18, c19⟩ := OM.cells20 HM2.out) | (clear tk6; go_at_call 46; refine (HSV.out _).mono ?_; rintro e w' ⟨rfl, rfl⟩) | (clear tk8; go_at_call 48; refine (HNV.out _).mono ?_; rintro e w3 ⟨rfl, hB⟩; have HB3 := hid (HB2.out.trans (hB.mono HB2.out.size)); have HM3 : Hid (OM w3 w.heap.size m.m) := hid (heapB HM2.out hB (Array.getElem?_eq_some_iff.1 HM2.out).1); clear hB; clear c0 c1 c2 c3 c4 c5 c6 c7 c8 c9 c10 c11 c12 c13 c14 c15 c16 c17 c18 c19; obtain ⟨c0, c1, c2, c3, c4, c5, c6, c7, c8, c9, c10, c11, c12, c13, c14, c15, c16, c17, c18, c19⟩ := OM.cells20 HM3.out) | ((with_reducible refine loadGM (x := ?lx13) (b := w.heap.size) m.m ?lg13 ?lo13 ?lxx13 ?lc13 ?lh13); (case lo13 => rfl); (case lg13 => rfl); (case lxx13 => rfl); (case lc13 => exact HM3.out)) | (clear tk7; go_at_call 47; refine (HRS.out _ HB3.out).mono ?_; rintro e w4 ⟨rfl, hB⟩; have HB4 := hid (HB3.out.trans (hB.mono HB3.out.size)); have HM4 : Hid (OM w4 w.heap.size m.m) := hid (heapB HM3.out hB (Array.getElem?_eq_some_iff.1 HM3.out).1); clear hB; clear c0 c1 c2 c3 c4 c5 c6 c7 c8 c9 c10 c11 c12 c13 c14 c15 c16 c17 c18 c19; obtain ⟨c0, c1, c2, c3, c4, c5, c6, c7, c8, c9, c10, c11, c12, c13, c14, c15, c16, c17, c18, c19⟩ := OM.cells20 HM4.out) | fail)
       go_ret
       exact ⟨ret_bool (by rw [HD.out]; first | (simp; done) | (rw [Bool.eq_iff_iff]; simp; done)), HB4.out⟩
    · as_aux_lemma =>
       go_wp2_with (first | (clear tk1; go_at_call 42; refine (HOn.out _).mono ?_; rintro e w1 ⟨rfl, hB⟩; have HB1 := hid (HB0.out.trans (hB.mono HB0.out.size)); have HM1 : Hid (OM w1 w.heap.size m.m) := hid (heapB HM0.out hB (Array.getElem?_eq_some_iff.1 HM0.out).1); clear hB; clear c0 c1 c2 c3 c4 c5 c6 c7 c8 c9 c10 c11 c12 c13 c14 c15 c16 c17 c18 c19; obtain ⟨c0, c1, c2, c3, c4, c5, c6, c7, c8, c9, c10, c11, c12, c13, c14, c15, c16, c17, c18, c19⟩ := OM.cells20 HM1.out) | (clear tk2; go_at_call 43; refine (HN1.out _).mono ?_; rintro e w' ⟨rfl, rfl⟩) | (clear tk3; go_at_call 43; refine (HN2.out _).mono ?_; rintro e w' ⟨rfl, rfl⟩) | (clear tk4; go_at_call 44; refine (HBB.out _).mono ?_; rintro e w' ⟨rfl, rfl⟩) | (clear tk5; go_at_call 45; refine (HVF.out _ HB1.out).mono ?_; rintro e w2 ⟨rfl, hB⟩; have HB2 := hid (HB1.out.trans (hB.mono HB1.out.size)); have HM2 : Hid (OM w2 w.heap.size m.m) := hid (heapB HM1.out hB (Array.getElem?_eq_some_iff.1 HM1.out).1); clear hB; clear c0 c1 c2 c3 c4 c5 c6 c7 c8 c9 c10 c11 c12 c13 c14 c15 c16 c17 c18 c19; obtain ⟨c0, c1, c2, c3, c4, c5, c6, c7, c8, c9, c10, c11, c12, c13, c14, c15, c16, c17, c18, c19⟩ := OM.cells20 HM2.out) | (clear tk6; go_at_call 46; refine (HSV.out _).mono ?_; rintro e w' ⟨rfl, rfl⟩) | (clear tk8; go_at_call 48; refine (HNV.out _).mono ?_; rintro e w3 ⟨rfl, hB⟩; have HB3 := hid (HB2.out.trans (hB.mono HB2.out.size)); have HM3 : Hid (OM w3 w.heap.size m.m) := hid (heapB HM2.out hB (Array.getElem?_eq_some_iff.1 HM2.out).1); clear hB; clear c0 c1 c2 c3 c4 c5 c6 c7 c8 c9 c10 c11 c12 c13 c14 c15 c16 c17 c18 c19; obtain ⟨c0, c1, c2, c3, c4, c5, c6, c7, c8, c9, c10, c11, c12, c13, c14, c15, c16, c17, c18, c19⟩ := OM.cells20 HM3.out) | ((with_reducible refine loadGM (x := ?lx14) (b := w.heap.size) m.m ?lg14 ?lo14 ?lxx14 ?lc14 ?lh14); (case lo14 => rfl); (case lg14 => rfl); (case lxx14 => rfl); (case lc14 => exact HM3.out)) | (clear tk7; go_at_call 47; refine (HRS.out _ HB3.out).mono ?_; rintro e w4 ⟨rfl, hB⟩; have HB4 := hid (HB3.out.trans (hB.mono HB3.out.size)); have HM4 : Hid (OM w4 w.heap.size m.m) := hid (heapB HM3.out hB (Array.getElem?_eq_some_iff.1 HM3.out).1); clear hB; clear c0 c1 c2 c3 c4 c5 c6 c7 c8 c9 c10 c11 c12 c13 c14 c15 c16 c17 c18 c19; obtain ⟨c0, c1, c2, c3, c4, c5, c6, c7, c8, c9, c10, c11, c12, c13, c14, c15, c16, c17, c18, c19⟩ := OM.cells20 HM4.out) | fail)
       go_ret
       exact ⟨ret_bool (by rw [HD.out]; first | (simp; done) | (rw [Bool.eq_iff_iff]; simp; done)), HB4.out⟩
set_option maxHeartbeats 16000000 in
set_option maxRecDepth 100000 in
theorem rR5_6 {w : World} {m : Ms} (hm : m.at w) (hms : m.short 1024) (hg : m.m.c.ok = true ∧ inB m.m.fr 9 = true ∧ inB m.m.tt 9 = true ∧ withinB m.m.bal 1048576 = true) (hs : m.m.so = 6) : Calls Tryz.prog 19 #[.agg m.m.arr] w fun e w' => e = .returned (.bool (rightM m)) ∧ Below w.heap.size w w' := by
 obtain ⟨ok, hok⟩ : ∃ z, z = m.m.c.ok := ⟨_, rfl⟩
 obtain ⟨n1, hn1⟩ : ∃ z, z = inB m.m.fr 9 := ⟨_, rfl⟩
 obtain ⟨n2, hn2⟩ : ∃ z, z = inB m.m.tt 9 := ⟨_, rfl⟩
 obtain ⟨bb, hbb⟩ : ∃ z, z = withinB m.m.bal 1048576 := ⟨_, rfl⟩
 obtain ⟨vf, hvf⟩ : ∃ z, z = fullB m.m.vt m.v := ⟨_, rfl⟩
 obtain ⟨sv, hsv⟩ : ∃ z, z = validB m.m.s := ⟨_, rfl⟩
 obtain ⟨rs, hrs⟩ : ∃ z, z = rstB m false false := ⟨_, rfl⟩
 obtain ⟨nv, hnv⟩ : ∃ z, z = noneB m.m.vt m.v := ⟨_, rfl⟩
 have HB0 := hid (laid1_b w (.cells m.m.arr 48))
 have HM0 : Hid (OM (w.alloc (.cells m.m.arr 48)) w.heap.size m.m) := hid (laid1_0 w _)
 have e1 := hm.1.lenP
 have e2 := hm.2.1.lenP
 have e3 := hm.2.2.lenP
 have HOn : Hid (∀ W : World, Calls Tryz.prog 42 #[.agg #[.int .i64 m.m.c.i, .int .i64 m.m.c.k, .int .i64 m.m.c.s, .int .i64 m.m.c.t, .int .i64 m.m.c.d, .int .i64 m.m.c.p, .int .i64 m.m.c.q]] W fun e w' => e = .returned (.bool ok) ∧ Below W.heap.size W w') := hid (fun W => by rw [hok]; exact rOne _ _ _ _ _ _ _ W)
 have HN1 : Hid (∀ W : World, Calls Tryz.prog 43 #[.int .i64 m.m.fr] W fun e w' => e = .returned (.bool n1) ∧ W = w') := hid (fun W => by rw [hn1]; exact rNode5 _ W)
 have HN2 : Hid (∀ W : World, Calls Tryz.prog 43 #[.int .i64 m.m.tt] W fun e w' => e = .returned (.bool n2) ∧ W = w') := hid (fun W => by rw [hn2]; exact rNode5 _ W)
 have HBB : Hid (∀ W : World, Calls Tryz.prog 44 #[.int .i64 m.m.bal] W fun e w' => e = .returned (.bool bb) ∧ W = w') := hid (fun W => by rw [hbb]; exact rBallot5 _ W)
 have HVF : Hid (∀ W : World, Below w.heap.size w W → Calls Tryz.prog 45 #[.agg #[.int .i64 m.m.vt, .slice m.m.vp.a m.m.vp.n m.m.vp.c]] W fun e w' => e = .returned (.bool vf) ∧ Below W.heap.size W w') := hid (fun W hW => by rw [hvf]; exact rFull5 _ (hm.1.on hW) hms.1)
 have HSV : Hid (∀ W : World, Calls Tryz.prog 46 #[.int .i64 m.m.s] W fun e w' => e = .returned (.bool sv) ∧ W = w') := hid (fun W => by rw [hsv]; exact rValid _ W)
 have HRS : Hid (∀ W : World, Below w.heap.size w W → Calls Tryz.prog 47 #[.agg m.m.arr, .bool false, .bool false] W fun e w' => e = .returned (.bool rs) ∧ Below W.heap.size W w') := hid (fun W hW => by rw [hrs]; exact rRest5 _ _ (hm.on hW))
 have HNV : Hid (∀ W : World, Calls Tryz.prog 48 #[.agg #[.int .i64 m.m.vt, .slice m.m.vp.a m.m.vp.n m.m.vp.c]] W fun e w' => e = .returned (.bool nv) ∧ Below W.heap.size W w') := hid (fun W => by rw [hnv]; exact rNone5 _ e1)
 have HD : Hid (rightM m = (nv && (rs && decide (m.m.ab = 0)))) := hid (by rw [hnv, hrs]; exact right_D hg (.inr hs))
 obtain rfl : ok = true := hok.trans hg.1
 obtain rfl : n1 = true := hn1.trans hg.2.1
 obtain rfl : n2 = true := hn2.trans hg.2.2.1
 obtain rfl : bb = true := hbb.trans hg.2.2.2
 have s0 : (m.m.so == 0) = false := by rw [hs]; rfl
 have s1 : (m.m.so == 1) = false := by rw [hs]; rfl
 have s2 : (m.m.so == 2) = false := by rw [hs]; rfl
 have s5 : (m.m.so == 5) = false := by rw [hs]; rfl
 have s7 : (m.m.so == 7) = false := by rw [hs]; rfl
 have s3 : (m.m.so == 3) = false := by rw [hs]; rfl
 have s6 : (m.m.so == 6) = true := by rw [hs]; rfl
 clear hok hn1 hn2 hbb hvf hsv hm hms e1 e2 e3 hg hs hrs hnv
 go_enter Tryz.func19, Tryz.ntmps19
 go_upto_region 1 with fail
 generalize (w.alloc (.cells m.m.arr 48)) = W0 at HB0 HM0 ⊢
 obtain ⟨c0, c1, c2, c3, c4, c5, c6, c7, c8, c9, c10, c11, c12, c13, c14, c15, c16, c17, c18, c19⟩ := OM.cells20 HM0.out
 have tk1 : Hid (0 = 0) := hid rfl
 have tk2 : Hid (0 = 0) := hid rfl
 have tk3 : Hid (0 = 0) := hid rfl
 have tk4 : Hid (0 = 0) := hid rfl
 have tk5 : Hid (0 = 0) := hid rfl
 have tk6 : Hid (0 = 0) := hid rfl
 have tk7 : Hid (0 = 0) := hid rfl
 have tk8 : Hid (0 = 0) := hid rfl
 have tk9 : Hid (0 = 0) := hid rfl
 have tk10 : Hid (0 = 0) := hid rfl
 have tk11 : Hid (0 = 0) := hid rfl
 rcases nv with _ | _
 · as_aux_lemma =>
    go_wp2_with (first | (clear tk1; go_at_call 42; refine (HOn.out _).mono ?_; rintro e w1 ⟨rfl, hB⟩; have HB1 := hid (HB0.out.trans (hB.mono HB0.out.size)); have HM1 : Hid (OM w1 w.heap.size m.m) := hid (heapB HM0.out hB (Array.getElem?_eq_some_iff.1 HM0.out).1); clear hB; clear c0 c1 c2 c3 c4 c5 c6 c7 c8 c9 c10 c11 c12 c13 c14 c15 c16 c17 c18 c19; obtain ⟨c0, c1, c2, c3, c4, c5, c6, c7, c8, c9, c10, c11, c12, c13, c14, c15, c16, c17, c18, c19⟩ := OM.cells20 HM1.out) | (clear tk2; go_at_call 43; refine (HN1.out _).mono ?_; rintro e w' ⟨rfl, rfl⟩) | (clear tk3; go_at_call 43; refine (HN2.out _).mono ?_; rintro e w' ⟨rfl, rfl⟩) | (clear tk4; go_at_call 44; refine (HBB.out _).mono ?_; rintro e w' ⟨rfl, rfl⟩) | (clear tk5; go_at_call 45; refine (HVF.out _ HB1.out).mono ?_; rintro e w2 ⟨rfl, hB⟩; have HB2 := hid (HB1.out.trans (hB.mono HB1.out.size)); have HM2 : Hid (OM w2 w.heap.size m.m) := hid (heapB HM1.out hB (Array.getElem?_eq_some_iff.1 HM1.out).1); clear hB; clear c0 c1 c2 c3 c4 c5 c6 c7 c8 c9 c10 c11 c12 c13 c14 c15 c16 c17 c18 c19; obtain ⟨c0, c1, c2, c3, c4, c5, c6, c7, c8, c9, c10, c11, c12, c13, c14, c15, c16, c17, c18, c19⟩ := OM.cells20 HM2.out) | (clear tk6; go_at_call 46; refine (HSV.out _).mono ?_; rintro e w' ⟨rfl, rfl⟩) | (clear tk8; go_at_call 48; refine (HNV.out _).mono ?_; rintro e w3 ⟨rfl, hB⟩; have HB3 := hid (HB2.out.trans (hB.mono HB2.out.size)); have HM3 : Hid (OM w3 w.heap.size m.m) := hid (heapB HM2.out hB (Array.getElem?_eq_some_iff.1 HM2.out).1); clear hB; clear c0 c1 c2 c3 c4 c5 c6 c7 c8 c9 c10 c11 c12 c13 c14 c15 c16 c17 c18 c19; obtain ⟨c0, c1, c2, c3, c4, c5, c6, c7, c8, c9, c10, c11, c12, c13, c14, c15, c16, c17, c18, c19⟩ := OM.cells20 HM3.out) | fail)
    go_ret
    exact ⟨ret_bool (by rw [HD.out]; first | (simp; done) | (rw [Bool.eq_iff_iff]; simp; done)), HB3.out⟩
 · as_aux_lemma =>
    rcases rs with _ | _
    · as_aux_lemma =>
       go_wp2_with (first | (clear tk1; go_at_call 42; refine (HOn.out _).mono ?_; rintro e w1 ⟨rfl, hB⟩; have HB1 := hid (HB0.out.trans (hB.mono HB0.out.size)); have HM1 : Hid (OM w1 w.heap.size m.m) := hid (heapB HM0.out hB (Array.getElem?_eq_some_iff.1 HM0.out).1); clear hB; clear c0 c1 c2 c3 c4 c5 c6 c7 c8 c9 c10 c11 c12 c13 c14 c15 c16 c17 c18 c19; obtain ⟨c0, c1, c2, c3, c4, c5, c6, c7, c8, c9, c10, c11, c12, c13, c14, c15, c16, c17, c18, c19⟩ := OM.cells20 HM1.out) | (clear tk2; go_at_call 43; refine (HN1.out _).mono ?_; rintro e w' ⟨rfl, rfl⟩) | (clear tk3; go_at_call 43; refine (HN2.out _).mono ?_; rintro e w' ⟨rfl, rfl⟩) | (clear tk4; go_at_call 44; refine (HBB.out _).mono ?_; rintro e w' ⟨rfl, rfl⟩) | (clear tk5; go_at_call 45; refine (HVF.out _ HB1.out).mono ?_; rintro e w2 ⟨rfl, hB⟩; have HB2 := hid (HB1.out.trans (hB.mono HB1.out.size)); have HM2 : Hid (OM w2 w.heap.size m.m) := hid (heapB HM1.out hB (Array.getElem?_eq_some_iff.1 HM1.out).1); clear hB; clear c0 c1 c2 c3 c4 c5 c6 c7 c8 c9 c10 c11 c12 c13 c14 c15 c16 c17 c18 c19; obtain ⟨c0, c1, c2, c3, c4, c5, c6, c7, c8, c9, c10, c11, c12, c13, c14, c15, c16, c17, c18, c19⟩ := OM.cells20 HM2.out) | (clear tk6; go_at_call 46; refine (HSV.out _).mono ?_; rintro e w' ⟨rfl, rfl⟩) | (clear tk8; go_at_call 48; refine (HNV.out _).mono ?_; rintro e w3 ⟨rfl, hB⟩; have HB3 := hid (HB2.out.trans (hB.mono HB2.out.size)); have HM3 : Hid (OM w3 w.heap.size m.m) := hid (heapB HM2.out hB (Array.getElem?_eq_some_iff.1 HM2.out).1); clear hB; clear c0 c1 c2 c3 c4 c5 c6 c7 c8 c9 c10 c11 c12 c13 c14 c15 c16 c17 c18 c19; obtain ⟨c0, c1, c2, c3, c4, c5, c6, c7, c8, c9, c10, c11, c12, c13, c14, c15, c16, c17, c18, c19⟩ := OM.cells20 HM3.out) | ((with_reducible refine loadGM (x := ?lx15) (b := w.heap.size) m.m ?lg15 ?lo15 ?lxx15 ?lc15 ?lh15); (case lo15 => rfl); (case lg15 => rfl); (case lxx15 => rfl); (case lc15 => exact HM3.out)) | (clear tk7; go_at_call 47; refine (HRS.out _ HB3.out).mono ?_; rintro e w4 ⟨rfl, hB⟩; have HB4 := hid (HB3.out.trans (hB.mono HB3.out.size)); have HM4 : Hid (OM w4 w.heap.size m.m) := hid (heapB HM3.out hB (Array.getElem?_eq_some_iff.1 HM3.out).1); clear hB; clear c0 c1 c2 c3 c4 c5 c6 c7 c8 c9 c10 c11 c12 c13 c14 c15 c16 c17 c18 c19; obtain ⟨c0, c1, c2, c3, c4, c5, c6, c7, c8, c9, c10, c11, c12, c13, c14, c15, c16, c17, c18, c19⟩ := OM.cells20 HM4.out) | fail)
       go_ret
       exact ⟨ret_bool (by rw [HD.out]; first | (simp; done) | (rw [Bool.eq_iff_iff]; simp; done)), HB4.out⟩
    · as_aux_lemma =>
       go_wp2_with (first | (clear tk1; go_at_call 42; refine (HOn.out _).mono ?_; rintro e w1 ⟨rfl, hB⟩; have HB1 := hid (HB0.out.trans (hB.mono HB0.out.size)); have HM1 : Hid (OM w1 w.heap.size m.m) := hid (heapB HM0.out hB (Array.getElem?_eq_some_iff.1 HM0.out).1); clear hB; clear c0 c1 c2 c3 c4 c5 c6 c7 c8 c9 c10 c11 c12 c13 c14 c15 c16 c17 c18 c19; obtain ⟨c0, c1, c2, c3, c4, c5, c6, c7, c8, c9, c10, c11, c12, c13, c14, c15, c16, c17, c18, c19⟩ := OM.cells20 HM1.out) | (clear tk2; go_at_call 43; refine (HN1.out _).mono ?_; rintro e w' ⟨rfl, rfl⟩) | (clear tk3; go_at_call 43; refine (HN2.out _).mono ?_; rintro e w' ⟨rfl, rfl⟩) | (clear tk4; go_at_call 44; refine (HBB.out _).mono ?_; rintro e w' ⟨rfl, rfl⟩) | (clear tk5; go_at_call 45; refine (HVF.out _ HB1.out).mono ?_; rintro e w2 ⟨rfl, hB⟩; have HB2 := hid (HB1.out.trans (hB.mono HB1.out.size)); have HM2 : Hid (OM w2 w.heap.size m.m) := hid (heapB HM1.out hB (Array.getElem?_eq_some_iff.1 HM1.out).1); clear hB; clear c0 c1 c2 c3 c4 c5 c6 c7 c8 c9 c10 c11 c12 c13 c14 c15 c16 c17 c18 c19; obtain ⟨c0, c1, c2, c3, c4, c5, c6, c7, c8, c9, c10, c11, c12, c13, c14, c15, c16, c17, c18, c19⟩ := OM.cells20 HM2.out) | (clear tk6; go_at_call 46; refine (HSV.out _).mono ?_; rintro e w' ⟨rfl, rfl⟩) | (clear tk8; go_at_call 48; refine (HNV.out _).mono ?_; rintro e w3 ⟨rfl, hB⟩; have HB3 := hid (HB2.out.trans (hB.mono HB2.out.size)); have HM3 : Hid (OM w3 w.heap.size m.m) := hid (heapB HM2.out hB (Array.getElem?_eq_some_iff.1 HM2.out).1); clear hB; clear c0 c1 c2 c3 c4 c5 c6 c7 c8 c9 c10 c11 c12 c13 c14 c15 c16 c17 c18 c19; obtain ⟨c0, c1, c2, c3, c4, c5, c6, c7, c8, c9, c10, c11, c12, c13, c14, c15, c16, c17, c18, c19⟩ := OM.cells20 HM3.out) | ((with_reducible refine loadGM (x := ?lx16) (b := w.heap.size) m.m ?lg16 ?lo16 ?lxx16 ?lc16 ?lh16); (case lo16 => rfl); (case lg16 => rfl); (case lxx16 => rfl); (case lc16 => exact HM3.out)) | (clear tk7; go_at_call 47; refine (HRS.out _ HB3.out).mono ?_; rintro e w4 ⟨rfl, hB⟩; have HB4 := hid (HB3.out.trans (hB.mono HB3.out.size)); have HM4 : Hid (OM w4 w.heap.size m.m) := hid (heapB HM3.out hB (Array.getElem?_eq_some_iff.1 HM3.out).1); clear hB; clear c0 c1 c2 c3 c4 c5 c6 c7 c8 c9 c10 c11 c12 c13 c14 c15 c16 c17 c18 c19; obtain ⟨c0, c1, c2, c3, c4, c5, c6, c7, c8, c9, c10, c11, c12, c13, c14, c15, c16, c17, c18, c19⟩ := OM.cells20 HM4.out) | fail)
       go_ret
       exact ⟨ret_bool (by rw [HD.out]; first | (simp; done) | (rw [Bool.eq_iff_iff]; simp; done)), HB4.out⟩
set_option maxHeartbeats 16000000 in
set_option maxRecDepth 100000 in
theorem rR5_8 {w : World} {m : Ms} (hm : m.at w) (hms : m.short 1024) (hg : m.m.c.ok = true ∧ inB m.m.fr 9 = true ∧ inB m.m.tt 9 = true ∧ withinB m.m.bal 1048576 = true) (hs : m.m.so = 8) : Calls Tryz.prog 19 #[.agg m.m.arr] w fun e w' => e = .returned (.bool (rightM m)) ∧ Below w.heap.size w w' := by
 obtain ⟨ok, hok⟩ : ∃ z, z = m.m.c.ok := ⟨_, rfl⟩
 obtain ⟨n1, hn1⟩ : ∃ z, z = inB m.m.fr 9 := ⟨_, rfl⟩
 obtain ⟨n2, hn2⟩ : ∃ z, z = inB m.m.tt 9 := ⟨_, rfl⟩
 obtain ⟨bb, hbb⟩ : ∃ z, z = withinB m.m.bal 1048576 := ⟨_, rfl⟩
 obtain ⟨vf, hvf⟩ : ∃ z, z = fullB m.m.vt m.v := ⟨_, rfl⟩
 obtain ⟨sv, hsv⟩ : ∃ z, z = validB m.m.s := ⟨_, rfl⟩
 obtain ⟨rs, hrs⟩ : ∃ z, z = rstB m false false := ⟨_, rfl⟩
 obtain ⟨nv, hnv⟩ : ∃ z, z = noneB m.m.vt m.v := ⟨_, rfl⟩
 obtain ⟨ba, hba⟩ : ∃ z, z = withinB m.m.ab 1048576 := ⟨_, rfl⟩
 have HB0 := hid (laid1_b w (.cells m.m.arr 48))
 have HM0 : Hid (OM (w.alloc (.cells m.m.arr 48)) w.heap.size m.m) := hid (laid1_0 w _)
 have e1 := hm.1.lenP
 have e2 := hm.2.1.lenP
 have e3 := hm.2.2.lenP
 have HOn : Hid (∀ W : World, Calls Tryz.prog 42 #[.agg #[.int .i64 m.m.c.i, .int .i64 m.m.c.k, .int .i64 m.m.c.s, .int .i64 m.m.c.t, .int .i64 m.m.c.d, .int .i64 m.m.c.p, .int .i64 m.m.c.q]] W fun e w' => e = .returned (.bool ok) ∧ Below W.heap.size W w') := hid (fun W => by rw [hok]; exact rOne _ _ _ _ _ _ _ W)
 have HN1 : Hid (∀ W : World, Calls Tryz.prog 43 #[.int .i64 m.m.fr] W fun e w' => e = .returned (.bool n1) ∧ W = w') := hid (fun W => by rw [hn1]; exact rNode5 _ W)
 have HN2 : Hid (∀ W : World, Calls Tryz.prog 43 #[.int .i64 m.m.tt] W fun e w' => e = .returned (.bool n2) ∧ W = w') := hid (fun W => by rw [hn2]; exact rNode5 _ W)
 have HBB : Hid (∀ W : World, Calls Tryz.prog 44 #[.int .i64 m.m.bal] W fun e w' => e = .returned (.bool bb) ∧ W = w') := hid (fun W => by rw [hbb]; exact rBallot5 _ W)
 have HVF : Hid (∀ W : World, Below w.heap.size w W → Calls Tryz.prog 45 #[.agg #[.int .i64 m.m.vt, .slice m.m.vp.a m.m.vp.n m.m.vp.c]] W fun e w' => e = .returned (.bool vf) ∧ Below W.heap.size W w') := hid (fun W hW => by rw [hvf]; exact rFull5 _ (hm.1.on hW) hms.1)
 have HSV : Hid (∀ W : World, Calls Tryz.prog 46 #[.int .i64 m.m.s] W fun e w' => e = .returned (.bool sv) ∧ W = w') := hid (fun W => by rw [hsv]; exact rValid _ W)
 have HRS : Hid (∀ W : World, Below w.heap.size w W → Calls Tryz.prog 47 #[.agg m.m.arr, .bool false, .bool false] W fun e w' => e = .returned (.bool rs) ∧ Below W.heap.size W w') := hid (fun W hW => by rw [hrs]; exact rRest5 _ _ (hm.on hW))
 have HNV : Hid (∀ W : World, Calls Tryz.prog 48 #[.agg #[.int .i64 m.m.vt, .slice m.m.vp.a m.m.vp.n m.m.vp.c]] W fun e w' => e = .returned (.bool nv) ∧ Below W.heap.size W w') := hid (fun W => by rw [hnv]; exact rNone5 _ e1)
 have HBA : Hid (∀ W : World, Calls Tryz.prog 44 #[.int .i64 m.m.ab] W fun e w' => e = .returned (.bool ba) ∧ W = w') := hid (fun W => by rw [hba]; exact rBallot5 _ W)
 have HD : Hid (rightM m = (nv && (rs && ba))) := hid (by rw [hnv, hrs, hba]; exact right_E hg hs)
 obtain rfl : ok = true := hok.trans hg.1
 obtain rfl : n1 = true := hn1.trans hg.2.1
 obtain rfl : n2 = true := hn2.trans hg.2.2.1
 obtain rfl : bb = true := hbb.trans hg.2.2.2
 have s0 : (m.m.so == 0) = false := by rw [hs]; rfl
 have s1 : (m.m.so == 1) = false := by rw [hs]; rfl
 have s2 : (m.m.so == 2) = false := by rw [hs]; rfl
 have s5 : (m.m.so == 5) = false := by rw [hs]; rfl
 have s7 : (m.m.so == 7) = false := by rw [hs]; rfl
 have s3 : (m.m.so == 3) = false := by rw [hs]; rfl
 have s6 : (m.m.so == 6) = false := by rw [hs]; rfl
 have s8 : (m.m.so == 8) = true := by rw [hs]; rfl
 clear hok hn1 hn2 hbb hvf hsv hm hms e1 e2 e3 hg hs hrs hnv hba
 go_enter Tryz.func19, Tryz.ntmps19
 go_upto_region 1 with fail
 generalize (w.alloc (.cells m.m.arr 48)) = W0 at HB0 HM0 ⊢
 obtain ⟨c0, c1, c2, c3, c4, c5, c6, c7, c8, c9, c10, c11, c12, c13, c14, c15, c16, c17, c18, c19⟩ := OM.cells20 HM0.out
 have tk1 : Hid (0 = 0) := hid rfl
 have tk2 : Hid (0 = 0) := hid rfl
 have tk3 : Hid (0 = 0) := hid rfl
 have tk4 : Hid (0 = 0) := hid rfl
 have tk5 : Hid (0 = 0) := hid rfl
 have tk6 : Hid (0 = 0) := hid rfl
 have tk7 : Hid (0 = 0) := hid rfl
 have tk8 : Hid (0 = 0) := hid rfl
 have tk9 : Hid (0 = 0) := hid rfl
 have tk10 : Hid (0 = 0) := hid rfl
 have tk11 : Hid (0 = 0) := hid rfl
 rcases nv with _ | _
 · as_aux_lemma =>
    go_wp2_with (first | (clear tk1; go_at_call 42; refine (HOn.out _).mono ?_; rintro e w1 ⟨rfl, hB⟩; have HB1 := hid (HB0.out.trans (hB.mono HB0.out.size)); have HM1 : Hid (OM w1 w.heap.size m.m) := hid (heapB HM0.out hB (Array.getElem?_eq_some_iff.1 HM0.out).1); clear hB; clear c0 c1 c2 c3 c4 c5 c6 c7 c8 c9 c10 c11 c12 c13 c14 c15 c16 c17 c18 c19; obtain ⟨c0, c1, c2, c3, c4, c5, c6, c7, c8, c9, c10, c11, c12, c13, c14, c15, c16, c17, c18, c19⟩ := OM.cells20 HM1.out) | (clear tk2; go_at_call 43; refine (HN1.out _).mono ?_; rintro e w' ⟨rfl, rfl⟩) | (clear tk3; go_at_call 43; refine (HN2.out _).mono ?_; rintro e w' ⟨rfl, rfl⟩) | (clear tk4; go_at_call 44; refine (HBB.out _).mono ?_; rintro e w' ⟨rfl, rfl⟩) | (clear tk5; go_at_call 45; refine (HVF.out _ HB1.out).mono ?_; rintro e w2 ⟨rfl, hB⟩; have HB2 := hid (HB1.out.trans (hB.mono HB1.out.size)); have HM2 : Hid (OM w2 w.heap.size m.m) := hid (heapB HM1.out hB (Array.getElem?_eq_some_iff.1 HM1.out).1); clear hB; clear c0 c1 c2 c3 c4 c5 c6 c7 c8 c9 c10 c11 c12 c13 c14 c15 c16 c17 c18 c19; obtain ⟨c0, c1, c2, c3, c4, c5, c6, c7, c8, c9, c10, c11, c12, c13, c14, c15, c16, c17, c18, c19⟩ := OM.cells20 HM2.out) | (clear tk6; go_at_call 46; refine (HSV.out _).mono ?_; rintro e w' ⟨rfl, rfl⟩) | (clear tk8; go_at_call 48; refine (HNV.out _).mono ?_; rintro e w3 ⟨rfl, hB⟩; have HB3 := hid (HB2.out.trans (hB.mono HB2.out.size)); have HM3 : Hid (OM w3 w.heap.size m.m) := hid (heapB HM2.out hB (Array.getElem?_eq_some_iff.1 HM2.out).1); clear hB; clear c0 c1 c2 c3 c4 c5 c6 c7 c8 c9 c10 c11 c12 c13 c14 c15 c16 c17 c18 c19; obtain ⟨c0, c1, c2, c3, c4, c5, c6, c7, c8, c9, c10, c11, c12, c13, c14, c15, c16, c17, c18, c19⟩ := OM.cells20 HM3.out) | fail)
    go_ret
    exact ⟨ret_bool (by rw [HD.out]; first | (simp; done) | (rw [Bool.eq_iff_iff]; simp; done)), HB3.out⟩
 · as_aux_lemma =>
    rcases rs with _ | _
    · as_aux_lemma =>
       go_wp2_with (first | (clear tk1; go_at_call 42; refine (HOn.out _).mono ?_; rintro e w1 ⟨rfl, hB⟩; have HB1 := hid (HB0.out.trans (hB.mono HB0.out.size)); have HM1 : Hid (OM w1 w.heap.size m.m) := hid (heapB HM0.out hB (Array.getElem?_eq_some_iff.1 HM0.out).1); clear hB; clear c0 c1 c2 c3 c4 c5 c6 c7 c8 c9 c10 c11 c12 c13 c14 c15 c16 c17 c18 c19; obtain ⟨c0, c1, c2, c3, c4, c5, c6, c7, c8, c9, c10, c11, c12, c13, c14, c15, c16, c17, c18, c19⟩ := OM.cells20 HM1.out) | (clear tk2; go_at_call 43; refine (HN1.out _).mono ?_; rintro e w' ⟨rfl, rfl⟩) | (clear tk3; go_at_call 43; refine (HN2.out _).mono ?_; rintro e w' ⟨rfl, rfl⟩) | (clear tk4; go_at_call 44; refine (HBB.out _).mono ?_; rintro e w' ⟨rfl, rfl⟩) | (clear tk5; go_at_call 45; refine (HVF.out _ HB1.out).mono ?_; rintro e w2 ⟨rfl, hB⟩; have HB2 := hid (HB1.out.trans (hB.mono HB1.out.size)); have HM2 : Hid (OM w2 w.heap.size m.m) := hid (heapB HM1.out hB (Array.getElem?_eq_some_iff.1 HM1.out).1); clear hB; clear c0 c1 c2 c3 c4 c5 c6 c7 c8 c9 c10 c11 c12 c13 c14 c15 c16 c17 c18 c19; obtain ⟨c0, c1, c2, c3, c4, c5, c6, c7, c8, c9, c10, c11, c12, c13, c14, c15, c16, c17, c18, c19⟩ := OM.cells20 HM2.out) | (clear tk6; go_at_call 46; refine (HSV.out _).mono ?_; rintro e w' ⟨rfl, rfl⟩) | (clear tk8; go_at_call 48; refine (HNV.out _).mono ?_; rintro e w3 ⟨rfl, hB⟩; have HB3 := hid (HB2.out.trans (hB.mono HB2.out.size)); have HM3 : Hid (OM w3 w.heap.size m.m) := hid (heapB HM2.out hB (Array.getElem?_eq_some_iff.1 HM2.out).1); clear hB; clear c0 c1 c2 c3 c4 c5 c6 c7 c8 c9 c10 c11 c12 c13 c14 c15 c16 c17 c18 c19; obtain ⟨c0, c1, c2, c3, c4, c5, c6, c7, c8, c9, c10, c11, c12, c13, c14, c15, c16, c17, c18, c19⟩ := OM.cells20 HM3.out) | ((with_reducible refine loadGM (x := ?lx17) (b := w.heap.size) m.m ?lg17 ?lo17 ?lxx17 ?lc17 ?lh17); (case lo17 => rfl); (case lg17 => rfl); (case lxx17 => rfl); (case lc17 => exact HM3.out)) | (clear tk7; go_at_call 47; refine (HRS.out _ HB3.out).mono ?_; rintro e w4 ⟨rfl, hB⟩; have HB4 := hid (HB3.out.trans (hB.mono HB3.out.size)); have HM4 : Hid (OM w4 w.heap.size m.m) := hid (heapB HM3.out hB (Array.getElem?_eq_some_iff.1 HM3.out).1); clear hB; clear c0 c1 c2 c3 c4 c5 c6 c7 c8 c9 c10 c11 c12 c13 c14 c15 c16 c17 c18 c19; obtain ⟨c0, c1, c2, c3, c4, c5, c6, c7, c8, c9, c10, c11, c12, c13, c14, c15, c16, c17, c18, c19⟩ := OM.cells20 HM4.out) | fail)
       go_ret
       exact ⟨ret_bool (by rw [HD.out]; first | (simp; done) | (rw [Bool.eq_iff_iff]; simp; done)), HB4.out⟩
    · as_aux_lemma =>
       go_wp2_with (first | (clear tk1; go_at_call 42; refine (HOn.out _).mono ?_; rintro e w1 ⟨rfl, hB⟩; have HB1 := hid (HB0.out.trans (hB.mono HB0.out.size)); have HM1 : Hid (OM w1 w.heap.size m.m) := hid (heapB HM0.out hB (Array.getElem?_eq_some_iff.1 HM0.out).1); clear hB; clear c0 c1 c2 c3 c4 c5 c6 c7 c8 c9 c10 c11 c12 c13 c14 c15 c16 c17 c18 c19; obtain ⟨c0, c1, c2, c3, c4, c5, c6, c7, c8, c9, c10, c11, c12, c13, c14, c15, c16, c17, c18, c19⟩ := OM.cells20 HM1.out) | (clear tk2; go_at_call 43; refine (HN1.out _).mono ?_; rintro e w' ⟨rfl, rfl⟩) | (clear tk3; go_at_call 43; refine (HN2.out _).mono ?_; rintro e w' ⟨rfl, rfl⟩) | (clear tk4; go_at_call 44; refine (HBB.out _).mono ?_; rintro e w' ⟨rfl, rfl⟩) | (clear tk5; go_at_call 45; refine (HVF.out _ HB1.out).mono ?_; rintro e w2 ⟨rfl, hB⟩; have HB2 := hid (HB1.out.trans (hB.mono HB1.out.size)); have HM2 : Hid (OM w2 w.heap.size m.m) := hid (heapB HM1.out hB (Array.getElem?_eq_some_iff.1 HM1.out).1); clear hB; clear c0 c1 c2 c3 c4 c5 c6 c7 c8 c9 c10 c11 c12 c13 c14 c15 c16 c17 c18 c19; obtain ⟨c0, c1, c2, c3, c4, c5, c6, c7, c8, c9, c10, c11, c12, c13, c14, c15, c16, c17, c18, c19⟩ := OM.cells20 HM2.out) | (clear tk6; go_at_call 46; refine (HSV.out _).mono ?_; rintro e w' ⟨rfl, rfl⟩) | (clear tk8; go_at_call 48; refine (HNV.out _).mono ?_; rintro e w3 ⟨rfl, hB⟩; have HB3 := hid (HB2.out.trans (hB.mono HB2.out.size)); have HM3 : Hid (OM w3 w.heap.size m.m) := hid (heapB HM2.out hB (Array.getElem?_eq_some_iff.1 HM2.out).1); clear hB; clear c0 c1 c2 c3 c4 c5 c6 c7 c8 c9 c10 c11 c12 c13 c14 c15 c16 c17 c18 c19; obtain ⟨c0, c1, c2, c3, c4, c5, c6, c7, c8, c9, c10, c11, c12, c13, c14, c15, c16, c17, c18, c19⟩ := OM.cells20 HM3.out) | ((with_reducible refine loadGM (x := ?lx18) (b := w.heap.size) m.m ?lg18 ?lo18 ?lxx18 ?lc18 ?lh18); (case lo18 => rfl); (case lg18 => rfl); (case lxx18 => rfl); (case lc18 => exact HM3.out)) | (clear tk7; go_at_call 47; refine (HRS.out _ HB3.out).mono ?_; rintro e w4 ⟨rfl, hB⟩; have HB4 := hid (HB3.out.trans (hB.mono HB3.out.size)); have HM4 : Hid (OM w4 w.heap.size m.m) := hid (heapB HM3.out hB (Array.getElem?_eq_some_iff.1 HM3.out).1); clear hB; clear c0 c1 c2 c3 c4 c5 c6 c7 c8 c9 c10 c11 c12 c13 c14 c15 c16 c17 c18 c19; obtain ⟨c0, c1, c2, c3, c4, c5, c6, c7, c8, c9, c10, c11, c12, c13, c14, c15, c16, c17, c18, c19⟩ := OM.cells20 HM4.out) | (clear tk9; go_at_call 44; refine (HBA.out _).mono ?_; rintro e w' ⟨rfl, rfl⟩) | fail)
       go_ret
       exact ⟨ret_bool (by rw [HD.out]; first | (simp; done) | (rw [Bool.eq_iff_iff]; simp; done)), HB4.out⟩
end Go.Proofs.YtplodoindppleaaGreat
