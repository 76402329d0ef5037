import Derived.Test.YtplodoindppleaaGreatG05
namespace Go.Proofs.YtplodoindppleaaGreat
set_option linter.unusedVariables false
open Go.RowKit
open Go.Lib (hid)
theorem nineV {W : World} {q : Nat} {m : Ms} {vt s ab : Int} {fl : Bool} (hv : vt = m.m.vt) (h : OM W q m.m) (hl : fl = m.m.fl) (hs : s = m.m.s) (hab : ab = m.m.ab) : W.cell? ⟨q, 11, none⟩ = some (.int .i64 vt) ∧ W.cell? ⟨q, 12, none⟩ = some (.slice m.m.vp.a m.m.vp.n m.m.vp.c) ∧ W.cell? ⟨q, 13, none⟩ = some (.bool fl) ∧ W.cell? ⟨q, 14, none⟩ = some (.int .i64 s) ∧ W.cell? ⟨q, 15, none⟩ = some (.int .i64 ab) ∧ W.cell? ⟨q, 16, none⟩ = some (.int .i64 m.m.xt) ∧ W.cell? ⟨q, 17, none⟩ = some (.slice m.m.xp.a m.m.xp.n m.m.xp.c) ∧ W.cell? ⟨q, 18, none⟩ = some (.int .i64 m.m.ft) ∧ W.cell? ⟨q, 19, none⟩ = some (.slice m.m.fp.a m.m.fp.n m.m.fp.c) := by
 subst hv hl hs hab
 exact ⟨h.cell rfl, h.cell rfl, h.cell rfl, h.cell rfl, h.cell rfl, h.cell rfl, h.cell rfl, h.cell rfl, h.cell rfl⟩
set_option maxHeartbeats 16000000 in
set_option maxRecDepth 100000 in
theorem cOwn0 {w : World} {m : Ms} (hm : m.at w) (hms : m.short 1024) (hso : m.m.so = 0) : Calls Tryz.prog 63 #[.agg m.m.arr] w fun e w' => e = .returned (.bool (ownB m)) ∧ Below w.heap.size w w' := by
 have HB := hid (laid1_b w (.cells m.m.arr 48))
 have HM : Hid (OM (w.alloc (.cells m.m.arr 48)) w.heap.size m.m) := hid (laid1_0 w _)
 obtain ⟨fl, hl⟩ : ∃ z, z = m.m.fl := ⟨_, rfl⟩
 obtain ⟨s, hs⟩ : ∃ z, z = m.m.s := ⟨_, rfl⟩
 obtain ⟨ab, hab⟩ : ∃ z, z = m.m.ab := ⟨_, rfl⟩
 obtain ⟨rF, hrF⟩ : ∃ z, z = fullB m.m.vt m.v := ⟨_, rfl⟩
 obtain ⟨rP, hrP⟩ : ∃ z, z = setB m.v := ⟨_, rfl⟩
 obtain ⟨rN, hrN⟩ : ∃ z, z = noneAF m := ⟨_, rfl⟩
 obtain ⟨rV, hrV⟩ : ∃ z, z = noneVAF m := ⟨_, rfl⟩
 obtain ⟨rA, hrA⟩ : ∃ z, z = (noneB m.m.xt m.a || fullB m.m.xt m.a) := ⟨_, rfl⟩
 obtain ⟨rQ, hrQ⟩ : ∃ z, z = (noneB m.m.ft m.f || fullB m.m.ft m.f) := ⟨_, rfl⟩
 obtain ⟨rS, hrS⟩ : ∃ z, z = validB m.m.s := ⟨_, rfl⟩
 obtain ⟨rB, hrB⟩ : ∃ z, z = withinB m.m.ab 1048576 := ⟨_, rfl⟩
 have HF := hid (fun W (hB : Below w.heap.size w W) => cStampedW (w := W) m.m.vt (hm.1.on hB) hms.1)
 rw [← hrF] at HF
 have HP := hid (fun W (hB : Below w.heap.size w W) => cSetRight (w := W) (hm.1.on hB) hms.1)
 rw [← hrP] at HP
 have HA := hid (fun W (hB : Below w.heap.size w W) => cOrNoneW (w := W) m.m.xt (hm.2.1.on hB) hms.2.1)
 rw [← hrA] at HA
 have HQ := hid (fun W (hB : Below w.heap.size w W) => cOrNoneW (w := W) m.m.ft (hm.2.2.on hB) hms.2.2)
 rw [← hrQ] at HQ
 have HVS := hid (fun W => cValid s W)
 rw [show validB s = rS by rw [hs, ← hrS]] at HVS
 have HWB := hid (fun W => cBallotW ab W)
 rw [show withinB ab 1048576 = rB by rw [hab, ← hrB]] at HWB
 have HN : Hid (∀ W : World, Calls Tryz.prog 91 #[.slice (some ⟨W.heap.size, 0, none⟩) 2 2] (W.alloc (.cells #[.int .i64 m.m.xt, .slice m.m.xp.a m.m.xp.n m.m.xp.c, .int .i64 m.m.ft, .slice m.m.fp.a m.m.fp.n m.m.fp.c] 34)) fun e w' => e = .returned (.bool rN) ∧ Below (W.alloc (.cells #[.int .i64 m.m.xt, .slice m.m.xp.a m.m.xp.n m.m.xp.c, .int .i64 m.m.ft, .slice m.m.fp.a m.m.fp.n m.m.fp.c] 34)).heap.size (W.alloc (.cells #[.int .i64 m.m.xt, .slice m.m.xp.a m.m.xp.n m.m.xp.c, .int .i64 m.m.ft, .slice m.m.fp.a m.m.fp.n m.m.fp.c] 34)) w') := hid fun W => by
  have := cNoneW (cap := 2) (wp_bsV2 (w := W) (x := ⟨m.m.xt, m.m.xp, m.a⟩) (y := ⟨m.m.ft, m.m.fp, m.f⟩) hm.2.1.lenP hm.2.2.lenP) (by simp) (by simp)
  rw [show noneL [⟨m.m.xt, m.m.xp, m.a⟩, ⟨m.m.ft, m.m.fp, m.f⟩] = rN from hrN.symm] at this
  exact this
 have HV : Hid (∀ W : World, Calls Tryz.prog 91 #[.slice (some ⟨W.heap.size, 0, none⟩) 3 3] (W.alloc (.cells #[.int .i64 m.m.vt, .slice m.m.vp.a m.m.vp.n m.m.vp.c, .int .i64 m.m.xt, .slice m.m.xp.a m.m.xp.n m.m.xp.c, .int .i64 m.m.ft, .slice m.m.fp.a m.m.fp.n m.m.fp.c] 34)) fun e w' => e = .returned (.bool rV) ∧ Below (W.alloc (.cells #[.int .i64 m.m.vt, .slice m.m.vp.a m.m.vp.n m.m.vp.c, .int .i64 m.m.xt, .slice m.m.xp.a m.m.xp.n m.m.xp.c, .int .i64 m.m.ft, .slice m.m.fp.a m.m.fp.n m.m.fp.c] 34)).heap.size (W.alloc (.cells #[.int .i64 m.m.vt, .slice m.m.vp.a m.m.vp.n m.m.vp.c, .int .i64 m.m.xt, .slice m.m.xp.a m.m.xp.n m.m.xp.c, .int .i64 m.m.ft, .slice m.m.fp.a m.m.fp.n m.m.fp.c] 34)) w') := hid fun W => by
  have := cNoneW (cap := 3) (wp_bsV3 (w := W) (x := ⟨m.m.vt, m.m.vp, m.v⟩) (y := ⟨m.m.xt, m.m.xp, m.a⟩) (u := ⟨m.m.ft, m.m.fp, m.f⟩) hm.1.lenP hm.2.1.lenP hm.2.2.lenP) (by simp) (by simp)
  rw [show noneL [⟨m.m.vt, m.m.vp, m.v⟩, ⟨m.m.xt, m.m.xp, m.a⟩, ⟨m.m.ft, m.m.fp, m.f⟩] = rV from hrV.symm] at this
  exact this
 have HOW : Hid (ownB m = (rF && (decide (s = 0) && (decide (ab = 0) && (rN))))) := hid (by unfold ownB; rw [hso]; subst hl hs hab hrF hrP hrN hrV hrA hrQ hrS hrB; rfl)
 have HL := hid hl
 have HS := hid hs
 have HAB := hid hab
 have HSO := hid hso
 clear hrF hrP hrN hrV hrA hrQ hrS hrB hl hs hab hm hms hso
 go_enter Tryz.func63, Tryz.ntmps63
 have tok : Hid (0 = 0) := hid rfl
 rcases rF with _ | _
 · go_wp2_with (first
    | (clear tok; (with_reducible refine opaqueW (w.alloc (.cells m.m.arr 48)) ?_); intro W0 hW; rw [← hW] at HB HM; clear hW; have ck0 : W0.cell? ⟨w.heap.size, 0, none⟩ = some (.int .i64 0) := (by have h9 := HM.out.cell (m := m.m) (j := 0) rfl; first | (rw [HSO.out] at h9; exact h9) | (rw [HSO.out]; exact h9)); obtain ⟨cv0, cw0, cl0, cs0, cb0, ca0, cc0, cf0, cg0⟩ := nineV rfl HM.out HL.out HS.out HAB.out)
    | (go_at_call 90; refine (HF.out W0 HB.out).mono ?_; rintro z w1 ⟨rfl, hB⟩; have hb0 : Below W0.heap.size W0 w1 := hB; have HB1 := hid (HB.out.trans (hb0.mono HB.out.size)); have HM1 : Hid (OM w1 w.heap.size m.m) := hid (heapB HM.out hb0 (Array.getElem?_eq_some_iff.1 HM.out).1); obtain ⟨cv1, cw1, cl1, cs1, cb1, ca1, cc1, cf1, cg1⟩ := nineV rfl HM1.out HL.out HS.out HAB.out; clear hB hb0)
    | fail)
   go_ret
   rw [HOW.out]
   exact ⟨by first | rfl | (simp [*]; done) | (simp_all; done), HB1.out⟩
 · by_cases hx1 : s = 0
   · by_cases hx2 : ab = 0
     · go_wp2_with (first
        | (clear tok; (with_reducible refine opaqueW (w.alloc (.cells m.m.arr 48)) ?_); intro W0 hW; rw [← hW] at HB HM; clear hW; have ck0 : W0.cell? ⟨w.heap.size, 0, none⟩ = some (.int .i64 0) := (by have h9 := HM.out.cell (m := m.m) (j := 0) rfl; first | (rw [HSO.out] at h9; exact h9) | (rw [HSO.out]; exact h9)); obtain ⟨cv0, cw0, cl0, cs0, cb0, ca0, cc0, cf0, cg0⟩ := nineV rfl HM.out HL.out HS.out HAB.out)
        | (go_at_call 90; refine (HF.out W0 HB.out).mono ?_; rintro z w1 ⟨rfl, hB⟩; have hb0 : Below W0.heap.size W0 w1 := hB; have HB1 := hid (HB.out.trans (hb0.mono HB.out.size)); have HM1 : Hid (OM w1 w.heap.size m.m) := hid (heapB HM.out hb0 (Array.getElem?_eq_some_iff.1 HM.out).1); obtain ⟨cv1, cw1, cl1, cs1, cb1, ca1, cc1, cf1, cg1⟩ := nineV rfl HM1.out HL.out HS.out HAB.out; clear hB hb0)
        | (go_at_call 91; refine (HN.out w1).mono ?_; rintro z w2 ⟨rfl, hB⟩; have hb0 : Below w1.heap.size w1 w2 := (laid1_b w1 _).trans (hB.mono (by simp)); have HB2 := hid (HB1.out.trans (hb0.mono HB1.out.size)); have HM2 : Hid (OM w2 w.heap.size m.m) := hid (heapB HM1.out hb0 (Array.getElem?_eq_some_iff.1 HM1.out).1); obtain ⟨cv2, cw2, cl2, cs2, cb2, ca2, cc2, cf2, cg2⟩ := nineV rfl HM2.out HL.out HS.out HAB.out; clear hB hb0)
        | fail)
       go_ret
       rw [HOW.out]
       exact ⟨by first | rfl | (simp [*]; done) | (simp_all; done), HB2.out⟩
     · have hy2 : (ab == 0) = false := by simpa using hx2
       go_wp2_with (first
        | (clear tok; (with_reducible refine opaqueW (w.alloc (.cells m.m.arr 48)) ?_); intro W0 hW; rw [← hW] at HB HM; clear hW; have ck0 : W0.cell? ⟨w.heap.size, 0, none⟩ = some (.int .i64 0) := (by have h9 := HM.out.cell (m := m.m) (j := 0) rfl; first | (rw [HSO.out] at h9; exact h9) | (rw [HSO.out]; exact h9)); obtain ⟨cv0, cw0, cl0, cs0, cb0, ca0, cc0, cf0, cg0⟩ := nineV rfl HM.out HL.out HS.out HAB.out)
        | (go_at_call 90; refine (HF.out W0 HB.out).mono ?_; rintro z w1 ⟨rfl, hB⟩; have hb0 : Below W0.heap.size W0 w1 := hB; have HB1 := hid (HB.out.trans (hb0.mono HB.out.size)); have HM1 : Hid (OM w1 w.heap.size m.m) := hid (heapB HM.out hb0 (Array.getElem?_eq_some_iff.1 HM.out).1); obtain ⟨cv1, cw1, cl1, cs1, cb1, ca1, cc1, cf1, cg1⟩ := nineV rfl HM1.out HL.out HS.out HAB.out; clear hB hb0)
        | fail)
       go_ret
       rw [HOW.out]
       exact ⟨by first | rfl | (simp [*]; done) | (simp_all; done), HB1.out⟩
   · have hy1 : (s == 0) = false := by simpa using hx1
     go_wp2_with (first
      | (clear tok; (with_reducible refine opaqueW (w.alloc (.cells m.m.arr 48)) ?_); intro W0 hW; rw [← hW] at HB HM; clear hW; have ck0 : W0.cell? ⟨w.heap.size, 0, none⟩ = some (.int .i64 0) := (by have h9 := HM.out.cell (m := m.m) (j := 0) rfl; first | (rw [HSO.out] at h9; exact h9) | (rw [HSO.out]; exact h9)); obtain ⟨cv0, cw0, cl0, cs0, cb0, ca0, cc0, cf0, cg0⟩ := nineV rfl HM.out HL.out HS.out HAB.out)
      | (go_at_call 90; refine (HF.out W0 HB.out).mono ?_; rintro z w1 ⟨rfl, hB⟩; have hb0 : Below W0.heap.size W0 w1 := hB; have HB1 := hid (HB.out.trans (hb0.mono HB.out.size)); have HM1 : Hid (OM w1 w.heap.size m.m) := hid (heapB HM.out hb0 (Array.getElem?_eq_some_iff.1 HM.out).1); obtain ⟨cv1, cw1, cl1, cs1, cb1, ca1, cc1, cf1, cg1⟩ := nineV rfl HM1.out HL.out HS.out HAB.out; clear hB hb0)
      | fail)
     go_ret
     rw [HOW.out]
     exact ⟨by first | rfl | (simp [*]; done) | (simp_all; done), HB1.out⟩
set_option maxHeartbeats 16000000 in
set_option maxRecDepth 100000 in
theorem cOwn1 {w : World} {m : Ms} (hm : m.at w) (hms : m.short 1024) (hso : m.m.so = 1) : Calls Tryz.prog 63 #[.agg m.m.arr] w fun e w' => e = .returned (.bool (ownB m)) ∧ Below w.heap.size w w' := by
 have HB := hid (laid1_b w (.cells m.m.arr 48))
 have HM : Hid (OM (w.alloc (.cells m.m.arr 48)) w.heap.size m.m) := hid (laid1_0 w _)
 obtain ⟨fl, hl⟩ : ∃ z, z = m.m.fl := ⟨_, rfl⟩
 obtain ⟨s, hs⟩ : ∃ z, z = m.m.s := ⟨_, rfl⟩
 obtain ⟨ab, hab⟩ : ∃ z, z = m.m.ab := ⟨_, rfl⟩
 obtain ⟨rF, hrF⟩ : ∃ z, z = fullB m.m.vt m.v := ⟨_, rfl⟩
 obtain ⟨rP, hrP⟩ : ∃ z, z = setB m.v := ⟨_, rfl⟩
 obtain ⟨rN, hrN⟩ : ∃ z, z = noneAF m := ⟨_, rfl⟩
 obtain ⟨rV, hrV⟩ : ∃ z, z = noneVAF m := ⟨_, rfl⟩
 obtain ⟨rA, hrA⟩ : ∃ z, z = (noneB m.m.xt m.a || fullB m.m.xt m.a) := ⟨_, rfl⟩
 obtain ⟨rQ, hrQ⟩ : ∃ z, z = (noneB m.m.ft m.f || fullB m.m.ft m.f) := ⟨_, rfl⟩
 obtain ⟨rS, hrS⟩ : ∃ z, z = validB m.m.s := ⟨_, rfl⟩
 obtain ⟨rB, hrB⟩ : ∃ z, z = withinB m.m.ab 1048576 := ⟨_, rfl⟩
 have HF := hid (fun W (hB : Below w.heap.size w W) => cStampedW (w := W) m.m.vt (hm.1.on hB) hms.1)
 rw [← hrF] at HF
 have HP := hid (fun W (hB : Below w.heap.size w W) => cSetRight (w := W) (hm.1.on hB) hms.1)
 rw [← hrP] at HP
 have HA := hid (fun W (hB : Below w.heap.size w W) => cOrNoneW (w := W) m.m.xt (hm.2.1.on hB) hms.2.1)
 rw [← hrA] at HA
 have HQ := hid (fun W (hB : Below w.heap.size w W) => cOrNoneW (w := W) m.m.ft (hm.2.2.on hB) hms.2.2)
 rw [← hrQ] at HQ
 have HVS := hid (fun W => cValid s W)
 rw [show validB s = rS by rw [hs, ← hrS]] at HVS
 have HWB := hid (fun W => cBallotW ab W)
 rw [show withinB ab 1048576 = rB by rw [hab, ← hrB]] at HWB
 have HN : Hid (∀ W : World, Calls Tryz.prog 91 #[.slice (some ⟨W.heap.size, 0, none⟩) 2 2] (W.alloc (.cells #[.int .i64 m.m.xt, .slice m.m.xp.a m.m.xp.n m.m.xp.c, .int .i64 m.m.ft, .slice m.m.fp.a m.m.fp.n m.m.fp.c] 34)) fun e w' => e = .returned (.bool rN) ∧ Below (W.alloc (.cells #[.int .i64 m.m.xt, .slice m.m.xp.a m.m.xp.n m.m.xp.c, .int .i64 m.m.ft, .slice m.m.fp.a m.m.fp.n m.m.fp.c] 34)).heap.size (W.alloc (.cells #[.int .i64 m.m.xt, .slice m.m.xp.a m.m.xp.n m.m.xp.c, .int .i64 m.m.ft, .slice m.m.fp.a m.m.fp.n m.m.fp.c] 34)) w') := hid fun W => by
  have := cNoneW (cap := 2) (wp_bsV2 (w := W) (x := ⟨m.m.xt, m.m.xp, m.a⟩) (y := ⟨m.m.ft, m.m.fp, m.f⟩) hm.2.1.lenP hm.2.2.lenP) (by simp) (by simp)
  rw [show noneL [⟨m.m.xt, m.m.xp, m.a⟩, ⟨m.m.ft, m.m.fp, m.f⟩] = rN from hrN.symm] at this
  exact this
 have HV : Hid (∀ W : World, Calls Tryz.prog 91 #[.slice (some ⟨W.heap.size, 0, none⟩) 3 3] (W.alloc (.cells #[.int .i64 m.m.vt, .slice m.m.vp.a m.m.vp.n m.m.vp.c, .int .i64 m.m.xt, .slice m.m.xp.a m.m.xp.n m.m.xp.c, .int .i64 m.m.ft, .slice m.m.fp.a m.m.fp.n m.m.fp.c] 34)) fun e w' => e = .returned (.bool rV) ∧ Below (W.alloc (.cells #[.int .i64 m.m.vt, .slice m.m.vp.a m.m.vp.n m.m.vp.c, .int .i64 m.m.xt, .slice m.m.xp.a m.m.xp.n m.m.xp.c, .int .i64 m.m.ft, .slice m.m.fp.a m.m.fp.n m.m.fp.c] 34)).heap.size (W.alloc (.cells #[.int .i64 m.m.vt, .slice m.m.vp.a m.m.vp.n m.m.vp.c, .int .i64 m.m.xt, .slice m.m.xp.a m.m.xp.n m.m.xp.c, .int .i64 m.m.ft, .slice m.m.fp.a m.m.fp.n m.m.fp.c] 34)) w') := hid fun W => by
  have := cNoneW (cap := 3) (wp_bsV3 (w := W) (x := ⟨m.m.vt, m.m.vp, m.v⟩) (y := ⟨m.m.xt, m.m.xp, m.a⟩) (u := ⟨m.m.ft, m.m.fp, m.f⟩) hm.1.lenP hm.2.1.lenP hm.2.2.lenP) (by simp) (by simp)
  rw [show noneL [⟨m.m.vt, m.m.vp, m.v⟩, ⟨m.m.xt, m.m.xp, m.a⟩, ⟨m.m.ft, m.m.fp, m.f⟩] = rV from hrV.symm] at this
  exact this
 have HOW : Hid (ownB m = (rF && (decide (s = 0) && (decide (ab = 0) && (rN))))) := hid (by unfold ownB; rw [hso]; subst hl hs hab hrF hrP hrN hrV hrA hrQ hrS hrB; rfl)
 have HL := hid hl
 have HS := hid hs
 have HAB := hid hab
 have HSO := hid hso
 clear hrF hrP hrN hrV hrA hrQ hrS hrB hl hs hab hm hms hso
 go_enter Tryz.func63, Tryz.ntmps63
 have tok : Hid (0 = 0) := hid rfl
 rcases rF with _ | _
 · go_wp2_with (first
    | (clear tok; (with_reducible refine opaqueW (w.alloc (.cells m.m.arr 48)) ?_); intro W0 hW; rw [← hW] at HB HM; clear hW; have ck0 : W0.cell? ⟨w.heap.size, 0, none⟩ = some (.int .i64 1) := (by have h9 := HM.out.cell (m := m.m) (j := 0) rfl; first | (rw [HSO.out] at h9; exact h9) | (rw [HSO.out]; exact h9)); obtain ⟨cv0, cw0, cl0, cs0, cb0, ca0, cc0, cf0, cg0⟩ := nineV rfl HM.out HL.out HS.out HAB.out)
    | (go_at_call 90; refine (HF.out W0 HB.out).mono ?_; rintro z w1 ⟨rfl, hB⟩; have hb0 : Below W0.heap.size W0 w1 := hB; have HB1 := hid (HB.out.trans (hb0.mono HB.out.size)); have HM1 : Hid (OM w1 w.heap.size m.m) := hid (heapB HM.out hb0 (Array.getElem?_eq_some_iff.1 HM.out).1); obtain ⟨cv1, cw1, cl1, cs1, cb1, ca1, cc1, cf1, cg1⟩ := nineV rfl HM1.out HL.out HS.out HAB.out; clear hB hb0)
    | fail)
   go_ret
   rw [HOW.out]
   exact ⟨by first | rfl | (simp [*]; done) | (simp_all; done), HB1.out⟩
 · by_cases hx1 : s = 0
   · by_cases hx2 : ab = 0
     · go_wp2_with (first
        | (clear tok; (with_reducible refine opaqueW (w.alloc (.cells m.m.arr 48)) ?_); intro W0 hW; rw [← hW] at HB HM; clear hW; have ck0 : W0.cell? ⟨w.heap.size, 0, none⟩ = some (.int .i64 1) := (by have h9 := HM.out.cell (m := m.m) (j := 0) rfl; first | (rw [HSO.out] at h9; exact h9) | (rw [HSO.out]; exact h9)); obtain ⟨cv0, cw0, cl0, cs0, cb0, ca0, cc0, cf0, cg0⟩ := nineV rfl HM.out HL.out HS.out HAB.out)
        | (go_at_call 90; refine (HF.out W0 HB.out).mono ?_; rintro z w1 ⟨rfl, hB⟩; have hb0 : Below W0.heap.size W0 w1 := hB; have HB1 := hid (HB.out.trans (hb0.mono HB.out.size)); have HM1 : Hid (OM w1 w.heap.size m.m) := hid (heapB HM.out hb0 (Array.getElem?_eq_some_iff.1 HM.out).1); obtain ⟨cv1, cw1, cl1, cs1, cb1, ca1, cc1, cf1, cg1⟩ := nineV rfl HM1.out HL.out HS.out HAB.out; clear hB hb0)
        | (go_at_call 91; refine (HN.out w1).mono ?_; rintro z w2 ⟨rfl, hB⟩; have hb0 : Below w1.heap.size w1 w2 := (laid1_b w1 _).trans (hB.mono (by simp)); have HB2 := hid (HB1.out.trans (hb0.mono HB1.out.size)); have HM2 : Hid (OM w2 w.heap.size m.m) := hid (heapB HM1.out hb0 (Array.getElem?_eq_some_iff.1 HM1.out).1); obtain ⟨cv2, cw2, cl2, cs2, cb2, ca2, cc2, cf2, cg2⟩ := nineV rfl HM2.out HL.out HS.out HAB.out; clear hB hb0)
        | fail)
       go_ret
       rw [HOW.out]
       exact ⟨by first | rfl | (simp [*]; done) | (simp_all; done), HB2.out⟩
     · have hy2 : (ab == 0) = false := by simpa using hx2
       go_wp2_with (first
        | (clear tok; (with_reducible refine opaqueW (w.alloc (.cells m.m.arr 48)) ?_); intro W0 hW; rw [← hW] at HB HM; clear hW; have ck0 : W0.cell? ⟨w.heap.size, 0, none⟩ = some (.int .i64 1) := (by have h9 := HM.out.cell (m := m.m) (j := 0) rfl; first | (rw [HSO.out] at h9; exact h9) | (rw [HSO.out]; exact h9)); obtain ⟨cv0, cw0, cl0, cs0, cb0, ca0, cc0, cf0, cg0⟩ := nineV rfl HM.out HL.out HS.out HAB.out)
        | (go_at_call 90; refine (HF.out W0 HB.out).mono ?_; rintro z w1 ⟨rfl, hB⟩; have hb0 : Below W0.heap.size W0 w1 := hB; have HB1 := hid (HB.out.trans (hb0.mono HB.out.size)); have HM1 : Hid (OM w1 w.heap.size m.m) := hid (heapB HM.out hb0 (Array.getElem?_eq_some_iff.1 HM.out).1); obtain ⟨cv1, cw1, cl1, cs1, cb1, ca1, cc1, cf1, cg1⟩ := nineV rfl HM1.out HL.out HS.out HAB.out; clear hB hb0)
        | fail)
       go_ret
       rw [HOW.out]
       exact ⟨by first | rfl | (simp [*]; done) | (simp_all; done), HB1.out⟩
   · have hy1 : (s == 0) = false := by simpa using hx1
     go_wp2_with (first
      | (clear tok; (with_reducible refine opaqueW (w.alloc (.cells m.m.arr 48)) ?_); intro W0 hW; rw [← hW] at HB HM; clear hW; have ck0 : W0.cell? ⟨w.heap.size, 0, none⟩ = some (.int .i64 1) := (by have h9 := HM.out.cell (m := m.m) (j := 0) rfl; first | (rw [HSO.out] at h9; exact h9) | (rw [HSO.out]; exact h9)); obtain ⟨cv0, cw0, cl0, cs0, cb0, ca0, cc0, cf0, cg0⟩ := nineV rfl HM.out HL.out HS.out HAB.out)
      | (go_at_call 90; refine (HF.out W0 HB.out).mono ?_; rintro z w1 ⟨rfl, hB⟩; have hb0 : Below W0.heap.size W0 w1 := hB; have HB1 := hid (HB.out.trans (hb0.mono HB.out.size)); have HM1 : Hid (OM w1 w.heap.size m.m) := hid (heapB HM.out hb0 (Array.getElem?_eq_some_iff.1 HM.out).1); obtain ⟨cv1, cw1, cl1, cs1, cb1, ca1, cc1, cf1, cg1⟩ := nineV rfl HM1.out HL.out HS.out HAB.out; clear hB hb0)
      | fail)
     go_ret
     rw [HOW.out]
     exact ⟨by first | rfl | (simp [*]; done) | (simp_all; done), HB1.out⟩
set_option maxHeartbeats 16000000 in
set_option maxRecDepth 100000 in
theorem cOwn2 {w : World} {m : Ms} (hm : m.at w) (hms : m.short 1024) (hso : m.m.so = 2) : Calls Tryz.prog 63 #[.agg m.m.arr] w fun e w' => e = .returned (.bool (ownB m)) ∧ Below w.heap.size w w' := by
 have HB := hid (laid1_b w (.cells m.m.arr 48))
 have HM : Hid (OM (w.alloc (.cells m.m.arr 48)) w.heap.size m.m) := hid (laid1_0 w _)
 obtain ⟨fl, hl⟩ : ∃ z, z = m.m.fl := ⟨_, rfl⟩
 obtain ⟨s, hs⟩ : ∃ z, z = m.m.s := ⟨_, rfl⟩
 obtain ⟨ab, hab⟩ : ∃ z, z = m.m.ab := ⟨_, rfl⟩
 obtain ⟨rF, hrF⟩ : ∃ z, z = fullB m.m.vt m.v := ⟨_, rfl⟩
 obtain ⟨rP, hrP⟩ : ∃ z, z = setB m.v := ⟨_, rfl⟩
 obtain ⟨rN, hrN⟩ : ∃ z, z = noneAF m := ⟨_, rfl⟩
 obtain ⟨rV, hrV⟩ : ∃ z, z = noneVAF m := ⟨_, rfl⟩
 obtain ⟨rA, hrA⟩ : ∃ z, z = (noneB m.m.xt m.a || fullB m.m.xt m.a) := ⟨_, rfl⟩
 obtain ⟨rQ, hrQ⟩ : ∃ z, z = (noneB m.m.ft m.f || fullB m.m.ft m.f) := ⟨_, rfl⟩
 obtain ⟨rS, hrS⟩ : ∃ z, z = validB m.m.s := ⟨_, rfl⟩
 obtain ⟨rB, hrB⟩ : ∃ z, z = withinB m.m.ab 1048576 := ⟨_, rfl⟩
 have HF := hid (fun W (hB : Below w.heap.size w W) => cStampedW (w := W) m.m.vt (hm.1.on hB) hms.1)
 rw [← hrF] at HF
 have HP := hid (fun W (hB : Below w.heap.size w W) => cSetRight (w := W) (hm.1.on hB) hms.1)
 rw [← hrP] at HP
 have HA := hid (fun W (hB : Below w.heap.size w W) => cOrNoneW (w := W) m.m.xt (hm.2.1.on hB) hms.2.1)
 rw [← hrA] at HA
 have HQ := hid (fun W (hB : Below w.heap.size w W) => cOrNoneW (w := W) m.m.ft (hm.2.2.on hB) hms.2.2)
 rw [← hrQ] at HQ
 have HVS := hid (fun W => cValid s W)
 rw [show validB s = rS by rw [hs, ← hrS]] at HVS
 have HWB := hid (fun W => cBallotW ab W)
 rw [show withinB ab 1048576 = rB by rw [hab, ← hrB]] at HWB
 have HN : Hid (∀ W : World, Calls Tryz.prog 91 #[.slice (some ⟨W.heap.size, 0, none⟩) 2 2] (W.alloc (.cells #[.int .i64 m.m.xt, .slice m.m.xp.a m.m.xp.n m.m.xp.c, .int .i64 m.m.ft, .slice m.m.fp.a m.m.fp.n m.m.fp.c] 34)) fun e w' => e = .returned (.bool rN) ∧ Below (W.alloc (.cells #[.int .i64 m.m.xt, .slice m.m.xp.a m.m.xp.n m.m.xp.c, .int .i64 m.m.ft, .slice m.m.fp.a m.m.fp.n m.m.fp.c] 34)).heap.size (W.alloc (.cells #[.int .i64 m.m.xt, .slice m.m.xp.a m.m.xp.n m.m.xp.c, .int .i64 m.m.ft, .slice m.m.fp.a m.m.fp.n m.m.fp.c] 34)) w') := hid fun W => by
  have := cNoneW (cap := 2) (wp_bsV2 (w := W) (x := ⟨m.m.xt, m.m.xp, m.a⟩) (y := ⟨m.m.ft, m.m.fp, m.f⟩) hm.2.1.lenP hm.2.2.lenP) (by simp) (by simp)
  rw [show noneL [⟨m.m.xt, m.m.xp, m.a⟩, ⟨m.m.ft, m.m.fp, m.f⟩] = rN from hrN.symm] at this
  exact this
 have HV : Hid (∀ W : World, Calls Tryz.prog 91 #[.slice (some ⟨W.heap.size, 0, none⟩) 3 3] (W.alloc (.cells #[.int .i64 m.m.vt, .slice m.m.vp.a m.m.vp.n m.m.vp.c, .int .i64 m.m.xt, .slice m.m.xp.a m.m.xp.n m.m.xp.c, .int .i64 m.m.ft, .slice m.m.fp.a m.m.fp.n m.m.fp.c] 34)) fun e w' => e = .returned (.bool rV) ∧ Below (W.alloc (.cells #[.int .i64 m.m.vt, .slice m.m.vp.a m.m.vp.n m.m.vp.c, .int .i64 m.m.xt, .slice m.m.xp.a m.m.xp.n m.m.xp.c, .int .i64 m.m.ft, .slice m.m.fp.a m.m.fp.n m.m.fp.c] 34)).heap.size (W.alloc (.cells #[.int .i64 m.m.vt, .slice m.m.vp.a m.m.vp.n m.m.vp.c, .int .i64 m.m.xt, .slice m.m.xp.a m.m.xp.n m.m.xp.c, .int .i64 m.m.ft, .slice m.m.fp.a m.m.fp.n m.m.fp.c] 34)) w') := hid fun W => by
  have := cNoneW (cap := 3) (wp_bsV3 (w := W) (x := ⟨m.m.vt, m.m.vp, m.v⟩) (y := ⟨m.m.xt, m.m.xp, m.a⟩) (u := ⟨m.m.ft, m.m.fp, m.f⟩) hm.1.lenP hm.2.1.lenP hm.2.2.lenP) (by simp) (by simp)
  rw [show noneL [⟨m.m.vt, m.m.vp, m.v⟩, ⟨m.m.xt, m.m.xp, m.a⟩, ⟨m.m.ft, m.m.fp, m.f⟩] = rV from hrV.symm] at this
  exact this
 have HOW : Hid (ownB m = (rF && (!fl && (rS && (decide (ab = 0) && (rN)))))) := hid (by unfold ownB; rw [hso]; subst hl hs hab hrF hrP hrN hrV hrA hrQ hrS hrB; rfl)
 have HL := hid hl
 have HS := hid hs
 have HAB := hid hab
 have HSO := hid hso
 clear hrF hrP hrN hrV hrA hrQ hrS hrB hl hs hab hm hms hso
 go_enter Tryz.func63, Tryz.ntmps63
 have tok : Hid (0 = 0) := hid rfl
 rcases rF with _ | _
 · go_wp2_with (first
    | (clear tok; (with_reducible refine opaqueW (w.alloc (.cells m.m.arr 48)) ?_); intro W0 hW; rw [← hW] at HB HM; clear hW; have ck0 : W0.cell? ⟨w.heap.size, 0, none⟩ = some (.int .i64 2) := (by have h9 := HM.out.cell (m := m.m) (j := 0) rfl; first | (rw [HSO.out] at h9; exact h9) | (rw [HSO.out]; exact h9)); obtain ⟨cv0, cw0, cl0, cs0, cb0, ca0, cc0, cf0, cg0⟩ := nineV rfl HM.out HL.out HS.out HAB.out)
    | (go_at_call 90; refine (HF.out W0 HB.out).mono ?_; rintro z w1 ⟨rfl, hB⟩; have hb0 : Below W0.heap.size W0 w1 := hB; have HB1 := hid (HB.out.trans (hb0.mono HB.out.size)); have HM1 : Hid (OM w1 w.heap.size m.m) := hid (heapB HM.out hb0 (Array.getElem?_eq_some_iff.1 HM.out).1); obtain ⟨cv1, cw1, cl1, cs1, cb1, ca1, cc1, cf1, cg1⟩ := nineV rfl HM1.out HL.out HS.out HAB.out; clear hB hb0)
    | fail)
   go_ret
   rw [HOW.out]
   exact ⟨by first | rfl | (simp [*]; done) | (simp_all; done), HB1.out⟩
 · by_cases hx1 : fl = false
   · rcases rS with _ | _
     · go_wp2_with (first
        | (clear tok; (with_reducible refine opaqueW (w.alloc (.cells m.m.arr 48)) ?_); intro W0 hW; rw [← hW] at HB HM; clear hW; have ck0 : W0.cell? ⟨w.heap.size, 0, none⟩ = some (.int .i64 2) := (by have h9 := HM.out.cell (m := m.m) (j := 0) rfl; first | (rw [HSO.out] at h9; exact h9) | (rw [HSO.out]; exact h9)); obtain ⟨cv0, cw0, cl0, cs0, cb0, ca0, cc0, cf0, cg0⟩ := nineV rfl HM.out HL.out HS.out HAB.out)
        | (go_at_call 90; refine (HF.out W0 HB.out).mono ?_; rintro z w1 ⟨rfl, hB⟩; have hb0 : Below W0.heap.size W0 w1 := hB; have HB1 := hid (HB.out.trans (hb0.mono HB.out.size)); have HM1 : Hid (OM w1 w.heap.size m.m) := hid (heapB HM.out hb0 (Array.getElem?_eq_some_iff.1 HM.out).1); obtain ⟨cv1, cw1, cl1, cs1, cb1, ca1, cc1, cf1, cg1⟩ := nineV rfl HM1.out HL.out HS.out HAB.out; clear hB hb0)
        | (go_at_call 92; refine (HVS.out _).mono ?_; rintro z wq ⟨rfl, rfl⟩)
        | fail)
       go_ret
       rw [HOW.out]
       exact ⟨by first | rfl | (simp [*]; done) | (simp_all; done), HB1.out⟩
     · by_cases hx3 : ab = 0
       · go_wp2_with (first
          | (clear tok; (with_reducible refine opaqueW (w.alloc (.cells m.m.arr 48)) ?_); intro W0 hW; rw [← hW] at HB HM; clear hW; have ck0 : W0.cell? ⟨w.heap.size, 0, none⟩ = some (.int .i64 2) := (by have h9 := HM.out.cell (m := m.m) (j := 0) rfl; first | (rw [HSO.out] at h9; exact h9) | (rw [HSO.out]; exact h9)); obtain ⟨cv0, cw0, cl0, cs0, cb0, ca0, cc0, cf0, cg0⟩ := nineV rfl HM.out HL.out HS.out HAB.out)
          | (go_at_call 90; refine (HF.out W0 HB.out).mono ?_; rintro z w1 ⟨rfl, hB⟩; have hb0 : Below W0.heap.size W0 w1 := hB; have HB1 := hid (HB.out.trans (hb0.mono HB.out.size)); have HM1 : Hid (OM w1 w.heap.size m.m) := hid (heapB HM.out hb0 (Array.getElem?_eq_some_iff.1 HM.out).1); obtain ⟨cv1, cw1, cl1, cs1, cb1, ca1, cc1, cf1, cg1⟩ := nineV rfl HM1.out HL.out HS.out HAB.out; clear hB hb0)
          | (go_at_call 92; refine (HVS.out _).mono ?_; rintro z wq ⟨rfl, rfl⟩)
          | (go_at_call 91; refine (HN.out w1).mono ?_; rintro z w2 ⟨rfl, hB⟩; have hb0 : Below w1.heap.size w1 w2 := (laid1_b w1 _).trans (hB.mono (by simp)); have HB2 := hid (HB1.out.trans (hb0.mono HB1.out.size)); have HM2 : Hid (OM w2 w.heap.size m.m) := hid (heapB HM1.out hb0 (Array.getElem?_eq_some_iff.1 HM1.out).1); obtain ⟨cv2, cw2, cl2, cs2, cb2, ca2, cc2, cf2, cg2⟩ := nineV rfl HM2.out HL.out HS.out HAB.out; clear hB hb0)
          | fail)
         go_ret
         rw [HOW.out]
         exact ⟨by first | rfl | (simp [*]; done) | (simp_all; done), HB2.out⟩
       · have hy3 : (ab == 0) = false := by simpa using hx3
         go_wp2_with (first
          | (clear tok; (with_reducible refine opaqueW (w.alloc (.cells m.m.arr 48)) ?_); intro W0 hW; rw [← hW] at HB HM; clear hW; have ck0 : W0.cell? ⟨w.heap.size, 0, none⟩ = some (.int .i64 2) := (by have h9 := HM.out.cell (m := m.m) (j := 0) rfl; first | (rw [HSO.out] at h9; exact h9) | (rw [HSO.out]; exact h9)); obtain ⟨cv0, cw0, cl0, cs0, cb0, ca0, cc0, cf0, cg0⟩ := nineV rfl HM.out HL.out HS.out HAB.out)
          | (go_at_call 90; refine (HF.out W0 HB.out).mono ?_; rintro z w1 ⟨rfl, hB⟩; have hb0 : Below W0.heap.size W0 w1 := hB; have HB1 := hid (HB.out.trans (hb0.mono HB.out.size)); have HM1 : Hid (OM w1 w.heap.size m.m) := hid (heapB HM.out hb0 (Array.getElem?_eq_some_iff.1 HM.out).1); obtain ⟨cv1, cw1, cl1, cs1, cb1, ca1, cc1, cf1, cg1⟩ := nineV rfl HM1.out HL.out HS.out HAB.out; clear hB hb0)
          | (go_at_call 92; refine (HVS.out _).mono ?_; rintro z wq ⟨rfl, rfl⟩)
          | fail)
         go_ret
         rw [HOW.out]
         exact ⟨by first | rfl | (simp [*]; done) | (simp_all; done), HB1.out⟩
   · have hy1 : fl = true := by simpa using hx1
     go_wp2_with (first
      | (clear tok; (with_reducible refine opaqueW (w.alloc (.cells m.m.arr 48)) ?_); intro W0 hW; rw [← hW] at HB HM; clear hW; have ck0 : W0.cell? ⟨w.heap.size, 0, none⟩ = some (.int .i64 2) := (by have h9 := HM.out.cell (m := m.m) (j := 0) rfl; first | (rw [HSO.out] at h9; exact h9) | (rw [HSO.out]; exact h9)); obtain ⟨cv0, cw0, cl0, cs0, cb0, ca0, cc0, cf0, cg0⟩ := nineV rfl HM.out HL.out HS.out HAB.out)
      | (go_at_call 90; refine (HF.out W0 HB.out).mono ?_; rintro z w1 ⟨rfl, hB⟩; have hb0 : Below W0.heap.size W0 w1 := hB; have HB1 := hid (HB.out.trans (hb0.mono HB.out.size)); have HM1 : Hid (OM w1 w.heap.size m.m) := hid (heapB HM.out hb0 (Array.getElem?_eq_some_iff.1 HM.out).1); obtain ⟨cv1, cw1, cl1, cs1, cb1, ca1, cc1, cf1, cg1⟩ := nineV rfl HM1.out HL.out HS.out HAB.out; clear hB hb0)
      | fail)
     go_ret
     rw [HOW.out]
     exact ⟨by first | rfl | (simp [*]; done) | (simp_all; done), HB1.out⟩
set_option maxHeartbeats 16000000 in
set_option maxRecDepth 100000 in
theorem cOwn5 {w : World} {m : Ms} (hm : m.at w) (hms : m.short 1024) (hso : m.m.so = 5) : Calls Tryz.prog 63 #[.agg m.m.arr] w fun e w' => e = .returned (.bool (ownB m)) ∧ Below w.heap.size w w' := by
 have HB := hid (laid1_b w (.cells m.m.arr 48))
 have HM : Hid (OM (w.alloc (.cells m.m.arr 48)) w.heap.size m.m) := hid (laid1_0 w _)
 obtain ⟨fl, hl⟩ : ∃ z, z = m.m.fl := ⟨_, rfl⟩
 obtain ⟨s, hs⟩ : ∃ z, z = m.m.s := ⟨_, rfl⟩
 obtain ⟨ab, hab⟩ : ∃ z, z = m.m.ab := ⟨_, rfl⟩
 obtain ⟨rF, hrF⟩ : ∃ z, z = fullB m.m.vt m.v := ⟨_, rfl⟩
 obtain ⟨rP, hrP⟩ : ∃ z, z = setB m.v := ⟨_, rfl⟩
 obtain ⟨rN, hrN⟩ : ∃ z, z = noneAF m := ⟨_, rfl⟩
 obtain ⟨rV, hrV⟩ : ∃ z, z = noneVAF m := ⟨_, rfl⟩
 obtain ⟨rA, hrA⟩ : ∃ z, z = (noneB m.m.xt m.a || fullB m.m.xt m.a) := ⟨_, rfl⟩
 obtain ⟨rQ, hrQ⟩ : ∃ z, z = (noneB m.m.ft m.f || fullB m.m.ft m.f) := ⟨_, rfl⟩
 obtain ⟨rS, hrS⟩ : ∃ z, z = validB m.m.s := ⟨_, rfl⟩
 obtain ⟨rB, hrB⟩ : ∃ z, z = withinB m.m.ab 1048576 := ⟨_, rfl⟩
 have HF := hid (fun W (hB : Below w.heap.size w W) => cStampedW (w := W) m.m.vt (hm.1.on hB) hms.1)
 rw [← hrF] at HF
 have HP := hid (fun W (hB : Below w.heap.size w W) => cSetRight (w := W) (hm.1.on hB) hms.1)
 rw [← hrP] at HP
 have HA := hid (fun W (hB : Below w.heap.size w W) => cOrNoneW (w := W) m.m.xt (hm.2.1.on hB) hms.2.1)
 rw [← hrA] at HA
 have HQ := hid (fun W (hB : Below w.heap.size w W) => cOrNoneW (w := W) m.m.ft (hm.2.2.on hB) hms.2.2)
 rw [← hrQ] at HQ
 have HVS := hid (fun W => cValid s W)
 rw [show validB s = rS by rw [hs, ← hrS]] at HVS
 have HWB := hid (fun W => cBallotW ab W)
 rw [show withinB ab 1048576 = rB by rw [hab, ← hrB]] at HWB
 have HN : Hid (∀ W : World, Calls Tryz.prog 91 #[.slice (some ⟨W.heap.size, 0, none⟩) 2 2] (W.alloc (.cells #[.int .i64 m.m.xt, .slice m.m.xp.a m.m.xp.n m.m.xp.c, .int .i64 m.m.ft, .slice m.m.fp.a m.m.fp.n m.m.fp.c] 34)) fun e w' => e = .returned (.bool rN) ∧ Below (W.alloc (.cells #[.int .i64 m.m.xt, .slice m.m.xp.a m.m.xp.n m.m.xp.c, .int .i64 m.m.ft, .slice m.m.fp.a m.m.fp.n m.m.fp.c] 34)).heap.size (W.alloc (.cells #[.int .i64 m.m.xt, .slice m.m.xp.a m.m.xp.n m.m.xp.c, .int .i64 m.m.ft, .slice m.m.fp.a m.m.fp.n m.m.fp.c] 34)) w') := hid fun W => by
  have := cNoneW (cap := 2) (wp_bsV2 (w := W) (x := ⟨m.m.xt, m.m.xp, m.a⟩) (y := ⟨m.m.ft, m.m.fp, m.f⟩) hm.2.1.lenP hm.2.2.lenP) (by simp) (by simp)
  rw [show noneL [⟨m.m.xt, m.m.xp, m.a⟩, ⟨m.m.ft, m.m.fp, m.f⟩] = rN from hrN.symm] at this
  exact this
 have HV : Hid (∀ W : World, Calls Tryz.prog 91 #[.slice (some ⟨W.heap.size, 0, none⟩) 3 3] (W.alloc (.cells #[.int .i64 m.m.vt, .slice m.m.vp.a m.m.vp.n m.m.vp.c, .int .i64 m.m.xt, .slice m.m.xp.a m.m.xp.n m.m.xp.c, .int .i64 m.m.ft, .slice m.m.fp.a m.m.fp.n m.m.fp.c] 34)) fun e w' => e = .returned (.bool rV) ∧ Below (W.alloc (.cells #[.int .i64 m.m.vt, .slice m.m.vp.a m.m.vp.n m.m.vp.c, .int .i64 m.m.xt, .slice m.m.xp.a m.m.xp.n m.m.xp.c, .int .i64 m.m.ft, .slice m.m.fp.a m.m.fp.n m.m.fp.c] 34)).heap.size (W.alloc (.cells #[.int .i64 m.m.vt, .slice m.m.vp.a m.m.vp.n m.m.vp.c, .int .i64 m.m.xt, .slice m.m.xp.a m.m.xp.n m.m.xp.c, .int .i64 m.m.ft, .slice m.m.fp.a m.m.fp.n m.m.fp.c] 34)) w') := hid fun W => by
  have := cNoneW (cap := 3) (wp_bsV3 (w := W) (x := ⟨m.m.vt, m.m.vp, m.v⟩) (y := ⟨m.m.xt, m.m.xp, m.a⟩) (u := ⟨m.m.ft, m.m.fp, m.f⟩) hm.1.lenP hm.2.1.lenP hm.2.2.lenP) (by simp) (by simp)
  rw [show noneL [⟨m.m.vt, m.m.vp, m.v⟩, ⟨m.m.xt, m.m.xp, m.a⟩, ⟨m.m.ft, m.m.fp, m.f⟩] = rV from hrV.symm] at this
  exact this
 have HOW : Hid (ownB m = (rF && (!fl && (decide (s = 0) && (decide (ab = 0) && (rN)))))) := hid (by unfold ownB; rw [hso]; subst hl hs hab hrF hrP hrN hrV hrA hrQ hrS hrB; rfl)
 have HL := hid hl
 have HS := hid hs
 have HAB := hid hab
 have HSO := hid hso
 clear hrF hrP hrN hrV hrA hrQ hrS hrB hl hs hab hm hms hso
 go_enter Tryz.func63, Tryz.ntmps63
 have tok : Hid (0 = 0) := hid rfl
 rcases rF with _ | _
 · go_wp2_with (first
    | (clear tok; (with_reducible refine opaqueW (w.alloc (.cells m.m.arr 48)) ?_); intro W0 hW; rw [← hW] at HB HM; clear hW; have ck0 : W0.cell? ⟨w.heap.size, 0, none⟩ = some (.int .i64 5) := (by have h9 := HM.out.cell (m := m.m) (j := 0) rfl; first | (rw [HSO.out] at h9; exact h9) | (rw [HSO.out]; exact h9)); obtain ⟨cv0, cw0, cl0, cs0, cb0, ca0, cc0, cf0, cg0⟩ := nineV rfl HM.out HL.out HS.out HAB.out)
    | (go_at_call 90; refine (HF.out W0 HB.out).mono ?_; rintro z w1 ⟨rfl, hB⟩; have hb0 : Below W0.heap.size W0 w1 := hB; have HB1 := hid (HB.out.trans (hb0.mono HB.out.size)); have HM1 : Hid (OM w1 w.heap.size m.m) := hid (heapB HM.out hb0 (Array.getElem?_eq_some_iff.1 HM.out).1); obtain ⟨cv1, cw1, cl1, cs1, cb1, ca1, cc1, cf1, cg1⟩ := nineV rfl HM1.out HL.out HS.out HAB.out; clear hB hb0)
    | fail)
   go_ret
   rw [HOW.out]
   exact ⟨by first | rfl | (simp [*]; done) | (simp_all; done), HB1.out⟩
 · by_cases hx1 : fl = false
   · by_cases hx2 : s = 0
     · by_cases hx3 : ab = 0
       · go_wp2_with (first
          | (clear tok; (with_reducible refine opaqueW (w.alloc (.cells m.m.arr 48)) ?_); intro W0 hW; rw [← hW] at HB HM; clear hW; have ck0 : W0.cell? ⟨w.heap.size, 0, none⟩ = some (.int .i64 5) := (by have h9 := HM.out.cell (m := m.m) (j := 0) rfl; first | (rw [HSO.out] at h9; exact h9) | (rw [HSO.out]; exact h9)); obtain ⟨cv0, cw0, cl0, cs0, cb0, ca0, cc0, cf0, cg0⟩ := nineV rfl HM.out HL.out HS.out HAB.out)
          | (go_at_call 90; refine (HF.out W0 HB.out).mono ?_; rintro z w1 ⟨rfl, hB⟩; have hb0 : Below W0.heap.size W0 w1 := hB; have HB1 := hid (HB.out.trans (hb0.mono HB.out.size)); have HM1 : Hid (OM w1 w.heap.size m.m) := hid (heapB HM.out hb0 (Array.getElem?_eq_some_iff.1 HM.out).1); obtain ⟨cv1, cw1, cl1, cs1, cb1, ca1, cc1, cf1, cg1⟩ := nineV rfl HM1.out HL.out HS.out HAB.out; clear hB hb0)
          | (go_at_call 91; refine (HN.out w1).mono ?_; rintro z w2 ⟨rfl, hB⟩; have hb0 : Below w1.heap.size w1 w2 := (laid1_b w1 _).trans (hB.mono (by simp)); have HB2 := hid (HB1.out.trans (hb0.mono HB1.out.size)); have HM2 : Hid (OM w2 w.heap.size m.m) := hid (heapB HM1.out hb0 (Array.getElem?_eq_some_iff.1 HM1.out).1); obtain ⟨cv2, cw2, cl2, cs2, cb2, ca2, cc2, cf2, cg2⟩ := nineV rfl HM2.out HL.out HS.out HAB.out; clear hB hb0)
          | fail)
         go_ret
         rw [HOW.out]
         exact ⟨by first | rfl | (simp [*]; done) | (simp_all; done), HB2.out⟩
       · have hy3 : (ab == 0) = false := by simpa using hx3
         go_wp2_with (first
          | (clear tok; (with_reducible refine opaqueW (w.alloc (.cells m.m.arr 48)) ?_); intro W0 hW; rw [← hW] at HB HM; clear hW; have ck0 : W0.cell? ⟨w.heap.size, 0, none⟩ = some (.int .i64 5) := (by have h9 := HM.out.cell (m := m.m) (j := 0) rfl; first | (rw [HSO.out] at h9; exact h9) | (rw [HSO.out]; exact h9)); obtain ⟨cv0, cw0, cl0, cs0, cb0, ca0, cc0, cf0, cg0⟩ := nineV rfl HM.out HL.out HS.out HAB.out)
          | (go_at_call 90; refine (HF.out W0 HB.out).mono ?_; rintro z w1 ⟨rfl, hB⟩; have hb0 : Below W0.heap.size W0 w1 := hB; have HB1 := hid (HB.out.trans (hb0.mono HB.out.size)); have HM1 : Hid (OM w1 w.heap.size m.m) := hid (heapB HM.out hb0 (Array.getElem?_eq_some_iff.1 HM.out).1); obtain ⟨cv1, cw1, cl1, cs1, cb1, ca1, cc1, cf1, cg1⟩ := nineV rfl HM1.out HL.out HS.out HAB.out; clear hB hb0)
          | fail)
         go_ret
         rw [HOW.out]
         exact ⟨by first | rfl | (simp [*]; done) | (simp_all; done), HB1.out⟩
     · have hy2 : (s == 0) = false := by simpa using hx2
       go_wp2_with (first
        | (clear tok; (with_reducible refine opaqueW (w.alloc (.cells m.m.arr 48)) ?_); intro W0 hW; rw [← hW] at HB HM; clear hW; have ck0 : W0.cell? ⟨w.heap.size, 0, none⟩ = some (.int .i64 5) := (by have h9 := HM.out.cell (m := m.m) (j := 0) rfl; first | (rw [HSO.out] at h9; exact h9) | (rw [HSO.out]; exact h9)); obtain ⟨cv0, cw0, cl0, cs0, cb0, ca0, cc0, cf0, cg0⟩ := nineV rfl HM.out HL.out HS.out HAB.out)
        | (go_at_call 90; refine (HF.out W0 HB.out).mono ?_; rintro z w1 ⟨rfl, hB⟩; have hb0 : Below W0.heap.size W0 w1 := hB; have HB1 := hid (HB.out.trans (hb0.mono HB.out.size)); have HM1 : Hid (OM w1 w.heap.size m.m) := hid (heapB HM.out hb0 (Array.getElem?_eq_some_iff.1 HM.out).1); obtain ⟨cv1, cw1, cl1, cs1, cb1, ca1, cc1, cf1, cg1⟩ := nineV rfl HM1.out HL.out HS.out HAB.out; clear hB hb0)
        | fail)
       go_ret
       rw [HOW.out]
       exact ⟨by first | rfl | (simp [*]; done) | (simp_all; done), HB1.out⟩
   · have hy1 : fl = true := by simpa using hx1
     go_wp2_with (first
      | (clear tok; (with_reducible refine opaqueW (w.alloc (.cells m.m.arr 48)) ?_); intro W0 hW; rw [← hW] at HB HM; clear hW; have ck0 : W0.cell? ⟨w.heap.size, 0, none⟩ = some (.int .i64 5) := (by have h9 := HM.out.cell (m := m.m) (j := 0) rfl; first | (rw [HSO.out] at h9; exact h9) | (rw [HSO.out]; exact h9)); obtain ⟨cv0, cw0, cl0, cs0, cb0, ca0, cc0, cf0, cg0⟩ := nineV rfl HM.out HL.out HS.out HAB.out)
      | (go_at_call 90; refine (HF.out W0 HB.out).mono ?_; rintro z w1 ⟨rfl, hB⟩; have hb0 : Below W0.heap.size W0 w1 := hB; have HB1 := hid (HB.out.trans (hb0.mono HB.out.size)); have HM1 : Hid (OM w1 w.heap.size m.m) := hid (heapB HM.out hb0 (Array.getElem?_eq_some_iff.1 HM.out).1); obtain ⟨cv1, cw1, cl1, cs1, cb1, ca1, cc1, cf1, cg1⟩ := nineV rfl HM1.out HL.out HS.out HAB.out; clear hB hb0)
      | fail)
     go_ret
     rw [HOW.out]
     exact ⟨by first | rfl | (simp [*]; done) | (simp_all; done), HB1.out⟩
set_option maxHeartbeats 16000000 in
set_option maxRecDepth 100000 in
theorem cOwn7 {w : World} {m : Ms} (hm : m.at w) (hms : m.short 1024) (hso : m.m.so = 7) : Calls Tryz.prog 63 #[.agg m.m.arr] w fun e w' => e = .returned (.bool (ownB m)) ∧ Below w.heap.size w w' := by
 have HB := hid (laid1_b w (.cells m.m.arr 48))
 have HM : Hid (OM (w.alloc (.cells m.m.arr 48)) w.heap.size m.m) := hid (laid1_0 w _)
 obtain ⟨fl, hl⟩ : ∃ z, z = m.m.fl := ⟨_, rfl⟩
 obtain ⟨s, hs⟩ : ∃ z, z = m.m.s := ⟨_, rfl⟩
 obtain ⟨ab, hab⟩ : ∃ z, z = m.m.ab := ⟨_, rfl⟩
 obtain ⟨rF, hrF⟩ : ∃ z, z = fullB m.m.vt m.v := ⟨_, rfl⟩
 obtain ⟨rP, hrP⟩ : ∃ z, z = setB m.v := ⟨_, rfl⟩
 obtain ⟨rN, hrN⟩ : ∃ z, z = noneAF m := ⟨_, rfl⟩
 obtain ⟨rV, hrV⟩ : ∃ z, z = noneVAF m := ⟨_, rfl⟩
 obtain ⟨rA, hrA⟩ : ∃ z, z = (noneB m.m.xt m.a || fullB m.m.xt m.a) := ⟨_, rfl⟩
 obtain ⟨rQ, hrQ⟩ : ∃ z, z = (noneB m.m.ft m.f || fullB m.m.ft m.f) := ⟨_, rfl⟩
 obtain ⟨rS, hrS⟩ : ∃ z, z = validB m.m.s := ⟨_, rfl⟩
 obtain ⟨rB, hrB⟩ : ∃ z, z = withinB m.m.ab 1048576 := ⟨_, rfl⟩
 have HF := hid (fun W (hB : Below w.heap.size w W) => cStampedW (w := W) m.m.vt (hm.1.on hB) hms.1)
 rw [← hrF] at HF
 have HP := hid (fun W (hB : Below w.heap.size w W) => cSetRight (w := W) (hm.1.on hB) hms.1)
 rw [← hrP] at HP
 have HA := hid (fun W (hB : Below w.heap.size w W) => cOrNoneW (w := W) m.m.xt (hm.2.1.on hB) hms.2.1)
 rw [← hrA] at HA
 have HQ := hid (fun W (hB : Below w.heap.size w W) => cOrNoneW (w := W) m.m.ft (hm.2.2.on hB) hms.2.2)
 rw [← hrQ] at HQ
 have HVS := hid (fun W => cValid s W)
 rw [show validB s = rS by rw [hs, ← hrS]] at HVS
 have HWB := hid (fun W => cBallotW ab W)
 rw [show withinB ab 1048576 = rB by rw [hab, ← hrB]] at HWB
 have HN : Hid (∀ W : World, Calls Tryz.prog 91 #[.slice (some ⟨W.heap.size, 0, none⟩) 2 2] (W.alloc (.cells #[.int .i64 m.m.xt, .slice m.m.xp.a m.m.xp.n m.m.xp.c, .int .i64 m.m.ft, .slice m.m.fp.a m.m.fp.n m.m.fp.c] 34)) fun e w' => e = .returned (.bool rN) ∧ Below (W.alloc (.cells #[.int .i64 m.m.xt, .slice m.m.xp.a m.m.xp.n m.m.xp.c, .int .i64 m.m.ft, .slice m.m.fp.a m.m.fp.n m.m.fp.c] 34)).heap.size (W.alloc (.cells #[.int .i64 m.m.xt, .slice m.m.xp.a m.m.xp.n m.m.xp.c, .int .i64 m.m.ft, .slice m.m.fp.a m.m.fp.n m.m.fp.c] 34)) w') := hid fun W => by
  have := cNoneW (cap := 2) (wp_bsV2 (w := W) (x := ⟨m.m.xt, m.m.xp, m.a⟩) (y := ⟨m.m.ft, m.m.fp, m.f⟩) hm.2.1.lenP hm.2.2.lenP) (by simp) (by simp)
  rw [show noneL [⟨m.m.xt, m.m.xp, m.a⟩, ⟨m.m.ft, m.m.fp, m.f⟩] = rN from hrN.symm] at this
  exact this
 have HV : Hid (∀ W : World, Calls Tryz.prog 91 #[.slice (some ⟨W.heap.size, 0, none⟩) 3 3] (W.alloc (.cells #[.int .i64 m.m.vt, .slice m.m.vp.a m.m.vp.n m.m.vp.c, .int .i64 m.m.xt, .slice m.m.xp.a m.m.xp.n m.m.xp.c, .int .i64 m.m.ft, .slice m.m.fp.a m.m.fp.n m.m.fp.c] 34)) fun e w' => e = .returned (.bool rV) ∧ Below (W.alloc (.cells #[.int .i64 m.m.vt, .slice m.m.vp.a m.m.vp.n m.m.vp.c, .int .i64 m.m.xt, .slice m.m.xp.a m.m.xp.n m.m.xp.c, .int .i64 m.m.ft, .slice m.m.fp.a m.m.fp.n m.m.fp.c] 34)).heap.size (W.alloc (.cells #[.int .i64 m.m.vt, .slice m.m.vp.a m.m.vp.n m.m.vp.c, .int .i64 m.m.xt, .slice m.m.xp.a m.m.xp.n m.m.xp.c, .int .i64 m.m.ft, .slice m.m.fp.a m.m.fp.n m.m.fp.c] 34)) w') := hid fun W => by
  have := cNoneW (cap := 3) (wp_bsV3 (w := W) (x := ⟨m.m.vt, m.m.vp, m.v⟩) (y := ⟨m.m.xt, m.m.xp, m.a⟩) (u := ⟨m.m.ft, m.m.fp, m.f⟩) hm.1.lenP hm.2.1.lenP hm.2.2.lenP) (by simp) (by simp)
  rw [show noneL [⟨m.m.vt, m.m.vp, m.v⟩, ⟨m.m.xt, m.m.xp, m.a⟩, ⟨m.m.ft, m.m.fp, m.f⟩] = rV from hrV.symm] at this
  exact this
 have HOW : Hid (ownB m = (rF && (!fl && (decide (s = 0) && (decide (ab = 0) && (rN)))))) := hid (by unfold ownB; rw [hso]; subst hl hs hab hrF hrP hrN hrV hrA hrQ hrS hrB; rfl)
 have HL := hid hl
 have HS := hid hs
 have HAB := hid hab
 have HSO := hid hso
 clear hrF hrP hrN hrV hrA hrQ hrS hrB hl hs hab hm hms hso
 go_enter Tryz.func63, Tryz.ntmps63
 have tok : Hid (0 = 0) := hid rfl
 rcases rF with _ | _
 · go_wp2_with (first
    | (clear tok; (with_reducible refine opaqueW (w.alloc (.cells m.m.arr 48)) ?_); intro W0 hW; rw [← hW] at HB HM; clear hW; have ck0 : W0.cell? ⟨w.heap.size, 0, none⟩ = some (.int .i64 7) := (by have h9 := HM.out.cell (m := m.m) (j := 0) rfl; first | (rw [HSO.out] at h9; exact h9) | (rw [HSO.out]; exact h9)); obtain ⟨cv0, cw0, cl0, cs0, cb0, ca0, cc0, cf0, cg0⟩ := nineV rfl HM.out HL.out HS.out HAB.out)
    | (go_at_call 90; refine (HF.out W0 HB.out).mono ?_; rintro z w1 ⟨rfl, hB⟩; have hb0 : Below W0.heap.size W0 w1 := hB; have HB1 := hid (HB.out.trans (hb0.mono HB.out.size)); have HM1 : Hid (OM w1 w.heap.size m.m) := hid (heapB HM.out hb0 (Array.getElem?_eq_some_iff.1 HM.out).1); obtain ⟨cv1, cw1, cl1, cs1, cb1, ca1, cc1, cf1, cg1⟩ := nineV rfl HM1.out HL.out HS.out HAB.out; clear hB hb0)
    | fail)
   go_ret
   rw [HOW.out]
   exact ⟨by first | rfl | (simp [*]; done) | (simp_all; done), HB1.out⟩
 · by_cases hx1 : fl = false
   · by_cases hx2 : s = 0
     · by_cases hx3 : ab = 0
       · go_wp2_with (first
          | (clear tok; (with_reducible refine opaqueW (w.alloc (.cells m.m.arr 48)) ?_); intro W0 hW; rw [← hW] at HB HM; clear hW; have ck0 : W0.cell? ⟨w.heap.size, 0, none⟩ = some (.int .i64 7) := (by have h9 := HM.out.cell (m := m.m) (j := 0) rfl; first | (rw [HSO.out] at h9; exact h9) | (rw [HSO.out]; exact h9)); obtain ⟨cv0, cw0, cl0, cs0, cb0, ca0, cc0, cf0, cg0⟩ := nineV rfl HM.out HL.out HS.out HAB.out)
          | (go_at_call 90; refine (HF.out W0 HB.out).mono ?_; rintro z w1 ⟨rfl, hB⟩; have hb0 : Below W0.heap.size W0 w1 := hB; have HB1 := hid (HB.out.trans (hb0.mono HB.out.size)); have HM1 : Hid (OM w1 w.heap.size m.m) := hid (heapB HM.out hb0 (Array.getElem?_eq_some_iff.1 HM.out).1); obtain ⟨cv1, cw1, cl1, cs1, cb1, ca1, cc1, cf1, cg1⟩ := nineV rfl HM1.out HL.out HS.out HAB.out; clear hB hb0)
          | (go_at_call 91; refine (HN.out w1).mono ?_; rintro z w2 ⟨rfl, hB⟩; have hb0 : Below w1.heap.size w1 w2 := (laid1_b w1 _).trans (hB.mono (by simp)); have HB2 := hid (HB1.out.trans (hb0.mono HB1.out.size)); have HM2 : Hid (OM w2 w.heap.size m.m) := hid (heapB HM1.out hb0 (Array.getElem?_eq_some_iff.1 HM1.out).1); obtain ⟨cv2, cw2, cl2, cs2, cb2, ca2, cc2, cf2, cg2⟩ := nineV rfl HM2.out HL.out HS.out HAB.out; clear hB hb0)
          | fail)
         go_ret
         rw [HOW.out]
         exact ⟨by first | rfl | (simp [*]; done) | (simp_all; done), HB2.out⟩
       · have hy3 : (ab == 0) = false := by simpa using hx3
         go_wp2_with (first
          | (clear tok; (with_reducible refine opaqueW (w.alloc (.cells m.m.arr 48)) ?_); intro W0 hW; rw [← hW] at HB HM; clear hW; have ck0 : W0.cell? ⟨w.heap.size, 0, none⟩ = some (.int .i64 7) := (by have h9 := HM.out.cell (m := m.m) (j := 0) rfl; first | (rw [HSO.out] at h9; exact h9) | (rw [HSO.out]; exact h9)); obtain ⟨cv0, cw0, cl0, cs0, cb0, ca0, cc0, cf0, cg0⟩ := nineV rfl HM.out HL.out HS.out HAB.out)
          | (go_at_call 90; refine (HF.out W0 HB.out).mono ?_; rintro z w1 ⟨rfl, hB⟩; have hb0 : Below W0.heap.size W0 w1 := hB; have HB1 := hid (HB.out.trans (hb0.mono HB.out.size)); have HM1 : Hid (OM w1 w.heap.size m.m) := hid (heapB HM.out hb0 (Array.getElem?_eq_some_iff.1 HM.out).1); obtain ⟨cv1, cw1, cl1, cs1, cb1, ca1, cc1, cf1, cg1⟩ := nineV rfl HM1.out HL.out HS.out HAB.out; clear hB hb0)
          | fail)
         go_ret
         rw [HOW.out]
         exact ⟨by first | rfl | (simp [*]; done) | (simp_all; done), HB1.out⟩
     · have hy2 : (s == 0) = false := by simpa using hx2
       go_wp2_with (first
        | (clear tok; (with_reducible refine opaqueW (w.alloc (.cells m.m.arr 48)) ?_); intro W0 hW; rw [← hW] at HB HM; clear hW; have ck0 : W0.cell? ⟨w.heap.size, 0, none⟩ = some (.int .i64 7) := (by have h9 := HM.out.cell (m := m.m) (j := 0) rfl; first | (rw [HSO.out] at h9; exact h9) | (rw [HSO.out]; exact h9)); obtain ⟨cv0, cw0, cl0, cs0, cb0, ca0, cc0, cf0, cg0⟩ := nineV rfl HM.out HL.out HS.out HAB.out)
        | (go_at_call 90; refine (HF.out W0 HB.out).mono ?_; rintro z w1 ⟨rfl, hB⟩; have hb0 : Below W0.heap.size W0 w1 := hB; have HB1 := hid (HB.out.trans (hb0.mono HB.out.size)); have HM1 : Hid (OM w1 w.heap.size m.m) := hid (heapB HM.out hb0 (Array.getElem?_eq_some_iff.1 HM.out).1); obtain ⟨cv1, cw1, cl1, cs1, cb1, ca1, cc1, cf1, cg1⟩ := nineV rfl HM1.out HL.out HS.out HAB.out; clear hB hb0)
        | fail)
       go_ret
       rw [HOW.out]
       exact ⟨by first | rfl | (simp [*]; done) | (simp_all; done), HB1.out⟩
   · have hy1 : fl = true := by simpa using hx1
     go_wp2_with (first
      | (clear tok; (with_reducible refine opaqueW (w.alloc (.cells m.m.arr 48)) ?_); intro W0 hW; rw [← hW] at HB HM; clear hW; have ck0 : W0.cell? ⟨w.heap.size, 0, none⟩ = some (.int .i64 7) := (by have h9 := HM.out.cell (m := m.m) (j := 0) rfl; first | (rw [HSO.out] at h9; exact h9) | (rw [HSO.out]; exact h9)); obtain ⟨cv0, cw0, cl0, cs0, cb0, ca0, cc0, cf0, cg0⟩ := nineV rfl HM.out HL.out HS.out HAB.out)
      | (go_at_call 90; refine (HF.out W0 HB.out).mono ?_; rintro z w1 ⟨rfl, hB⟩; have hb0 : Below W0.heap.size W0 w1 := hB; have HB1 := hid (HB.out.trans (hb0.mono HB.out.size)); have HM1 : Hid (OM w1 w.heap.size m.m) := hid (heapB HM.out hb0 (Array.getElem?_eq_some_iff.1 HM.out).1); obtain ⟨cv1, cw1, cl1, cs1, cb1, ca1, cc1, cf1, cg1⟩ := nineV rfl HM1.out HL.out HS.out HAB.out; clear hB hb0)
      | fail)
     go_ret
     rw [HOW.out]
     exact ⟨by first | rfl | (simp [*]; done) | (simp_all; done), HB1.out⟩
set_option maxHeartbeats 16000000 in
set_option maxRecDepth 100000 in
theorem cOwn8 {w : World} {m : Ms} (hm : m.at w) (hms : m.short 1024) (hso : m.m.so = 8) : Calls Tryz.prog 63 #[.agg m.m.arr] w fun e w' => e = .returned (.bool (ownB m)) ∧ Below w.heap.size w w' := by
 have HB := hid (laid1_b w (.cells m.m.arr 48))
 have HM : Hid (OM (w.alloc (.cells m.m.arr 48)) w.heap.size m.m) := hid (laid1_0 w _)
 obtain ⟨fl, hl⟩ : ∃ z, z = m.m.fl := ⟨_, rfl⟩
 obtain ⟨s, hs⟩ : ∃ z, z = m.m.s := ⟨_, rfl⟩
 obtain ⟨ab, hab⟩ : ∃ z, z = m.m.ab := ⟨_, rfl⟩
 obtain ⟨rF, hrF⟩ : ∃ z, z = fullB m.m.vt m.v := ⟨_, rfl⟩
 obtain ⟨rP, hrP⟩ : ∃ z, z = setB m.v := ⟨_, rfl⟩
 obtain ⟨rN, hrN⟩ : ∃ z, z = noneAF m := ⟨_, rfl⟩
 obtain ⟨rV, hrV⟩ : ∃ z, z = noneVAF m := ⟨_, rfl⟩
 obtain ⟨rA, hrA⟩ : ∃ z, z = (noneB m.m.xt m.a || fullB m.m.xt m.a) := ⟨_, rfl⟩
 obtain ⟨rQ, hrQ⟩ : ∃ z, z = (noneB m.m.ft m.f || fullB m.m.ft m.f) := ⟨_, rfl⟩
 obtain ⟨rS, hrS⟩ : ∃ z, z = validB m.m.s := ⟨_, rfl⟩
 obtain ⟨rB, hrB⟩ : ∃ z, z = withinB m.m.ab 1048576 := ⟨_, rfl⟩
 have HF := hid (fun W (hB : Below w.heap.size w W) => cStampedW (w := W) m.m.vt (hm.1.on hB) hms.1)
 rw [← hrF] at HF
 have HP := hid (fun W (hB : Below w.heap.size w W) => cSetRight (w := W) (hm.1.on hB) hms.1)
 rw [← hrP] at HP
 have HA := hid (fun W (hB : Below w.heap.size w W) => cOrNoneW (w := W) m.m.xt (hm.2.1.on hB) hms.2.1)
 rw [← hrA] at HA
 have HQ := hid (fun W (hB : Below w.heap.size w W) => cOrNoneW (w := W) m.m.ft (hm.2.2.on hB) hms.2.2)
 rw [← hrQ] at HQ
 have HVS := hid (fun W => cValid s W)
 rw [show validB s = rS by rw [hs, ← hrS]] at HVS
 have HWB := hid (fun W => cBallotW ab W)
 rw [show withinB ab 1048576 = rB by rw [hab, ← hrB]] at HWB
 have HN : Hid (∀ W : World, Calls Tryz.prog 91 #[.slice (some ⟨W.heap.size, 0, none⟩) 2 2] (W.alloc (.cells #[.int .i64 m.m.xt, .slice m.m.xp.a m.m.xp.n m.m.xp.c, .int .i64 m.m.ft, .slice m.m.fp.a m.m.fp.n m.m.fp.c] 34)) fun e w' => e = .returned (.bool rN) ∧ Below (W.alloc (.cells #[.int .i64 m.m.xt, .slice m.m.xp.a m.m.xp.n m.m.xp.c, .int .i64 m.m.ft, .slice m.m.fp.a m.m.fp.n m.m.fp.c] 34)).heap.size (W.alloc (.cells #[.int .i64 m.m.xt, .slice m.m.xp.a m.m.xp.n m.m.xp.c, .int .i64 m.m.ft, .slice m.m.fp.a m.m.fp.n m.m.fp.c] 34)) w') := hid fun W => by
  have := cNoneW (cap := 2) (wp_bsV2 (w := W) (x := ⟨m.m.xt, m.m.xp, m.a⟩) (y := ⟨m.m.ft, m.m.fp, m.f⟩) hm.2.1.lenP hm.2.2.lenP) (by simp) (by simp)
  rw [show noneL [⟨m.m.xt, m.m.xp, m.a⟩, ⟨m.m.ft, m.m.fp, m.f⟩] = rN from hrN.symm] at this
  exact this
 have HV : Hid (∀ W : World, Calls Tryz.prog 91 #[.slice (some ⟨W.heap.size, 0, none⟩) 3 3] (W.alloc (.cells #[.int .i64 m.m.vt, .slice m.m.vp.a m.m.vp.n m.m.vp.c, .int .i64 m.m.xt, .slice m.m.xp.a m.m.xp.n m.m.xp.c, .int .i64 m.m.ft, .slice m.m.fp.a m.m.fp.n m.m.fp.c] 34)) fun e w' => e = .returned (.bool rV) ∧ Below (W.alloc (.cells #[.int .i64 m.m.vt, .slice m.m.vp.a m.m.vp.n m.m.vp.c, .int .i64 m.m.xt, .slice m.m.xp.a m.m.xp.n m.m.xp.c, .int .i64 m.m.ft, .slice m.m.fp.a m.m.fp.n m.m.fp.c] 34)).heap.size (W.alloc (.cells #[.int .i64 m.m.vt, .slice m.m.vp.a m.m.vp.n m.m.vp.c, .int .i64 m.m.xt, .slice m.m.xp.a m.m.xp.n m.m.xp.c, .int .i64 m.m.ft, .slice m.m.fp.a m.m.fp.n m.m.fp.c] 34)) w') := hid fun W => by
  have := cNoneW (cap := 3) (wp_bsV3 (w := W) (x := ⟨m.m.vt, m.m.vp, m.v⟩) (y := ⟨m.m.xt, m.m.xp, m.a⟩) (u := ⟨m.m.ft, m.m.fp, m.f⟩) hm.1.lenP hm.2.1.lenP hm.2.2.lenP) (by simp) (by simp)
  rw [show noneL [⟨m.m.vt, m.m.vp, m.v⟩, ⟨m.m.xt, m.m.xp, m.a⟩, ⟨m.m.ft, m.m.fp, m.f⟩] = rV from hrV.symm] at this
  exact this
 have HOW : Hid (ownB m = (rV && (!fl && (decide (s = 0) && (rB))))) := hid (by unfold ownB; rw [hso]; subst hl hs hab hrF hrP hrN hrV hrA hrQ hrS hrB; rfl)
 have HL := hid hl
 have HS := hid hs
 have HAB := hid hab
 have HSO := hid hso
 clear hrF hrP hrN hrV hrA hrQ hrS hrB hl hs hab hm hms hso
 go_enter Tryz.func63, Tryz.ntmps63
 have tok : Hid (0 = 0) := hid rfl
 rcases rV with _ | _
 · go_wp2_with (first
    | (clear tok; (with_reducible refine opaqueW (w.alloc (.cells m.m.arr 48)) ?_); intro W0 hW; rw [← hW] at HB HM; clear hW; have ck0 : W0.cell? ⟨w.heap.size, 0, none⟩ = some (.int .i64 8) := (by have h9 := HM.out.cell (m := m.m) (j := 0) rfl; first | (rw [HSO.out] at h9; exact h9) | (rw [HSO.out]; exact h9)); obtain ⟨cv0, cw0, cl0, cs0, cb0, ca0, cc0, cf0, cg0⟩ := nineV rfl HM.out HL.out HS.out HAB.out)
    | (go_at_call 91; refine (HV.out W0).mono ?_; rintro z w1 ⟨rfl, hB⟩; have hb0 : Below W0.heap.size W0 w1 := (laid1_b W0 _).trans (hB.mono (by simp)); have HB1 := hid (HB.out.trans (hb0.mono HB.out.size)); have HM1 : Hid (OM w1 w.heap.size m.m) := hid (heapB HM.out hb0 (Array.getElem?_eq_some_iff.1 HM.out).1); obtain ⟨cv1, cw1, cl1, cs1, cb1, ca1, cc1, cf1, cg1⟩ := nineV rfl HM1.out HL.out HS.out HAB.out; clear hB hb0)
    | fail)
   go_ret
   rw [HOW.out]
   exact ⟨by first | rfl | (simp [*]; done) | (simp_all; done), HB1.out⟩
 · by_cases hx1 : fl = false
   · by_cases hx2 : s = 0
     · go_wp2_with (first
        | (clear tok; (with_reducible refine opaqueW (w.alloc (.cells m.m.arr 48)) ?_); intro W0 hW; rw [← hW] at HB HM; clear hW; have ck0 : W0.cell? ⟨w.heap.size, 0, none⟩ = some (.int .i64 8) := (by have h9 := HM.out.cell (m := m.m) (j := 0) rfl; first | (rw [HSO.out] at h9; exact h9) | (rw [HSO.out]; exact h9)); obtain ⟨cv0, cw0, cl0, cs0, cb0, ca0, cc0, cf0, cg0⟩ := nineV rfl HM.out HL.out HS.out HAB.out)
        | (go_at_call 91; refine (HV.out W0).mono ?_; rintro z w1 ⟨rfl, hB⟩; have hb0 : Below W0.heap.size W0 w1 := (laid1_b W0 _).trans (hB.mono (by simp)); have HB1 := hid (HB.out.trans (hb0.mono HB.out.size)); have HM1 : Hid (OM w1 w.heap.size m.m) := hid (heapB HM.out hb0 (Array.getElem?_eq_some_iff.1 HM.out).1); obtain ⟨cv1, cw1, cl1, cs1, cb1, ca1, cc1, cf1, cg1⟩ := nineV rfl HM1.out HL.out HS.out HAB.out; clear hB hb0)
        | (go_at_call 61; refine (HWB.out _).mono ?_; rintro z wq ⟨rfl, rfl⟩)
        | fail)
       go_ret
       rw [HOW.out]
       exact ⟨by first | rfl | (simp [*]; done) | (simp_all; done), HB1.out⟩
     · have hy2 : (s == 0) = false := by simpa using hx2
       go_wp2_with (first
        | (clear tok; (with_reducible refine opaqueW (w.alloc (.cells m.m.arr 48)) ?_); intro W0 hW; rw [← hW] at HB HM; clear hW; have ck0 : W0.cell? ⟨w.heap.size, 0, none⟩ = some (.int .i64 8) := (by have h9 := HM.out.cell (m := m.m) (j := 0) rfl; first | (rw [HSO.out] at h9; exact h9) | (rw [HSO.out]; exact h9)); obtain ⟨cv0, cw0, cl0, cs0, cb0, ca0, cc0, cf0, cg0⟩ := nineV rfl HM.out HL.out HS.out HAB.out)
        | (go_at_call 91; refine (HV.out W0).mono ?_; rintro z w1 ⟨rfl, hB⟩; have hb0 : Below W0.heap.size W0 w1 := (laid1_b W0 _).trans (hB.mono (by simp)); have HB1 := hid (HB.out.trans (hb0.mono HB.out.size)); have HM1 : Hid (OM w1 w.heap.size m.m) := hid (heapB HM.out hb0 (Array.getElem?_eq_some_iff.1 HM.out).1); obtain ⟨cv1, cw1, cl1, cs1, cb1, ca1, cc1, cf1, cg1⟩ := nineV rfl HM1.out HL.out HS.out HAB.out; clear hB hb0)
        | fail)
       go_ret
       rw [HOW.out]
       exact ⟨by first | rfl | (simp [*]; done) | (simp_all; done), HB1.out⟩
   · have hy1 : fl = true := by simpa using hx1
     go_wp2_with (first
      | (clear tok; (with_reducible refine opaqueW (w.alloc (.cells m.m.arr 48)) ?_); intro W0 hW; rw [← hW] at HB HM; clear hW; have ck0 : W0.cell? ⟨w.heap.size, 0, none⟩ = some (.int .i64 8) := (by have h9 := HM.out.cell (m := m.m) (j := 0) rfl; first | (rw [HSO.out] at h9; exact h9) | (rw [HSO.out]; exact h9)); obtain ⟨cv0, cw0, cl0, cs0, cb0, ca0, cc0, cf0, cg0⟩ := nineV rfl HM.out HL.out HS.out HAB.out)
      | (go_at_call 91; refine (HV.out W0).mono ?_; rintro z w1 ⟨rfl, hB⟩; have hb0 : Below W0.heap.size W0 w1 := (laid1_b W0 _).trans (hB.mono (by simp)); have HB1 := hid (HB.out.trans (hb0.mono HB.out.size)); have HM1 : Hid (OM w1 w.heap.size m.m) := hid (heapB HM.out hb0 (Array.getElem?_eq_some_iff.1 HM.out).1); obtain ⟨cv1, cw1, cl1, cs1, cb1, ca1, cc1, cf1, cg1⟩ := nineV rfl HM1.out HL.out HS.out HAB.out; clear hB hb0)
      | fail)
     go_ret
     rw [HOW.out]
     exact ⟨by first | rfl | (simp [*]; done) | (simp_all; done), HB1.out⟩
set_option maxHeartbeats 16000000 in
set_option maxRecDepth 100000 in
theorem cOwnE {w : World} {m : Ms} (hm : m.at w) (hms : m.short 1024) (h0 : m.m.so ≠ 0) (h1 : m.m.so ≠ 1) (h2 : m.m.so ≠ 2) (h4 : m.m.so ≠ 4) (h5 : m.m.so ≠ 5) (h7 : m.m.so ≠ 7) (h8 : m.m.so ≠ 8) : Calls Tryz.prog 63 #[.agg m.m.arr] w fun e w' => e = .returned (.bool (ownB m)) ∧ Below w.heap.size w w' := by
 have HB := hid (laid1_b w (.cells m.m.arr 48))
 have HM : Hid (OM (w.alloc (.cells m.m.arr 48)) w.heap.size m.m) := hid (laid1_0 w _)
 obtain ⟨fl, hl⟩ : ∃ z, z = m.m.fl := ⟨_, rfl⟩
 obtain ⟨s, hs⟩ : ∃ z, z = m.m.s := ⟨_, rfl⟩
 obtain ⟨ab, hab⟩ : ∃ z, z = m.m.ab := ⟨_, rfl⟩
 obtain ⟨rF, hrF⟩ : ∃ z, z = fullB m.m.vt m.v := ⟨_, rfl⟩
 obtain ⟨rP, hrP⟩ : ∃ z, z = setB m.v := ⟨_, rfl⟩
 obtain ⟨rN, hrN⟩ : ∃ z, z = noneAF m := ⟨_, rfl⟩
 obtain ⟨rV, hrV⟩ : ∃ z, z = noneVAF m := ⟨_, rfl⟩
 obtain ⟨rA, hrA⟩ : ∃ z, z = (noneB m.m.xt m.a || fullB m.m.xt m.a) := ⟨_, rfl⟩
 obtain ⟨rQ, hrQ⟩ : ∃ z, z = (noneB m.m.ft m.f || fullB m.m.ft m.f) := ⟨_, rfl⟩
 obtain ⟨rS, hrS⟩ : ∃ z, z = validB m.m.s := ⟨_, rfl⟩
 obtain ⟨rB, hrB⟩ : ∃ z, z = withinB m.m.ab 1048576 := ⟨_, rfl⟩
 have HF := hid (fun W (hB : Below w.heap.size w W) => cStampedW (w := W) m.m.vt (hm.1.on hB) hms.1)
 rw [← hrF] at HF
 have HP := hid (fun W (hB : Below w.heap.size w W) => cSetRight (w := W) (hm.1.on hB) hms.1)
 rw [← hrP] at HP
 have HA := hid (fun W (hB : Below w.heap.size w W) => cOrNoneW (w := W) m.m.xt (hm.2.1.on hB) hms.2.1)
 rw [← hrA] at HA
 have HQ := hid (fun W (hB : Below w.heap.size w W) => cOrNoneW (w := W) m.m.ft (hm.2.2.on hB) hms.2.2)
 rw [← hrQ] at HQ
 have HVS := hid (fun W => cValid s W)
 rw [show validB s = rS by rw [hs, ← hrS]] at HVS
 have HWB := hid (fun W => cBallotW ab W)
 rw [show withinB ab 1048576 = rB by rw [hab, ← hrB]] at HWB
 have HN : Hid (∀ W : World, Calls Tryz.prog 91 #[.slice (some ⟨W.heap.size, 0, none⟩) 2 2] (W.alloc (.cells #[.int .i64 m.m.xt, .slice m.m.xp.a m.m.xp.n m.m.xp.c, .int .i64 m.m.ft, .slice m.m.fp.a m.m.fp.n m.m.fp.c] 34)) fun e w' => e = .returned (.bool rN) ∧ Below (W.alloc (.cells #[.int .i64 m.m.xt, .slice m.m.xp.a m.m.xp.n m.m.xp.c, .int .i64 m.m.ft, .slice m.m.fp.a m.m.fp.n m.m.fp.c] 34)).heap.size (W.alloc (.cells #[.int .i64 m.m.xt, .slice m.m.xp.a m.m.xp.n m.m.xp.c, .int .i64 m.m.ft, .slice m.m.fp.a m.m.fp.n m.m.fp.c] 34)) w') := hid fun W => by
  have := cNoneW (cap := 2) (wp_bsV2 (w := W) (x := ⟨m.m.xt, m.m.xp, m.a⟩) (y := ⟨m.m.ft, m.m.fp, m.f⟩) hm.2.1.lenP hm.2.2.lenP) (by simp) (by simp)
  rw [show noneL [⟨m.m.xt, m.m.xp, m.a⟩, ⟨m.m.ft, m.m.fp, m.f⟩] = rN from hrN.symm] at this
  exact this
 have HV : Hid (∀ W : World, Calls Tryz.prog 91 #[.slice (some ⟨W.heap.size, 0, none⟩) 3 3] (W.alloc (.cells #[.int .i64 m.m.vt, .slice m.m.vp.a m.m.vp.n m.m.vp.c, .int .i64 m.m.xt, .slice m.m.xp.a m.m.xp.n m.m.xp.c, .int .i64 m.m.ft, .slice m.m.fp.a m.m.fp.n m.m.fp.c] 34)) fun e w' => e = .returned (.bool rV) ∧ Below (W.alloc (.cells #[.int .i64 m.m.vt, .slice m.m.vp.a m.m.vp.n m.m.vp.c, .int .i64 m.m.xt, .slice m.m.xp.a m.m.xp.n m.m.xp.c, .int .i64 m.m.ft, .slice m.m.fp.a m.m.fp.n m.m.fp.c] 34)).heap.size (W.alloc (.cells #[.int .i64 m.m.vt, .slice m.m.vp.a m.m.vp.n m.m.vp.c, .int .i64 m.m.xt, .slice m.m.xp.a m.m.xp.n m.m.xp.c, .int .i64 m.m.ft, .slice m.m.fp.a m.m.fp.n m.m.fp.c] 34)) w') := hid fun W => by
  have := cNoneW (cap := 3) (wp_bsV3 (w := W) (x := ⟨m.m.vt, m.m.vp, m.v⟩) (y := ⟨m.m.xt, m.m.xp, m.a⟩) (u := ⟨m.m.ft, m.m.fp, m.f⟩) hm.1.lenP hm.2.1.lenP hm.2.2.lenP) (by simp) (by simp)
  rw [show noneL [⟨m.m.vt, m.m.vp, m.v⟩, ⟨m.m.xt, m.m.xp, m.a⟩, ⟨m.m.ft, m.m.fp, m.f⟩] = rV from hrV.symm] at this
  exact this
 have HOW : Hid (ownB m = (rV && (!fl && (decide (s = 0) && (decide (ab = 0)))))) := hid (by unfold ownB; rw [if_neg (by omega), if_neg h2, if_neg h4, if_neg (by omega), if_neg h8]; subst hl hs hab hrV; rfl)
 have HL := hid hl
 have HS := hid hs
 have HAB := hid hab
 obtain ⟨so, hso⟩ : ∃ z, z = m.m.so := ⟨_, rfl⟩
 rw [← hso] at h0 h1 h2 h4 h5 h7 h8
 have g0 : (so == 0) = false := by simpa using h0
 have g1 : (so == 1) = false := by simpa using h1
 have g2 : (so == 2) = false := by simpa using h2
 have g4 : (so == 4) = false := by simpa using h4
 have g5 : (so == 5) = false := by simpa using h5
 have g7 : (so == 7) = false := by simpa using h7
 have g8 : (so == 8) = false := by simpa using h8
 have HSO := hid hso
 clear hrF hrP hrN hrV hrA hrQ hrS hrB hl hs hab hm hms hso
 go_enter Tryz.func63, Tryz.ntmps63
 have tok : Hid (0 = 0) := hid rfl
 rcases rV with _ | _
 · go_wp2_with (first
    | (clear tok; (with_reducible refine opaqueW (w.alloc (.cells m.m.arr 48)) ?_); intro W0 hW; rw [← hW] at HB HM; clear hW; have ck0 : W0.cell? ⟨w.heap.size, 0, none⟩ = some (.int .i64 so) := (by have h9 := HM.out.cell (m := m.m) (j := 0) rfl; first | (rw [HSO.out] at h9; exact h9) | (rw [HSO.out]; exact h9)); obtain ⟨cv0, cw0, cl0, cs0, cb0, ca0, cc0, cf0, cg0⟩ := nineV rfl HM.out HL.out HS.out HAB.out)
    | (go_at_call 91; refine (HV.out W0).mono ?_; rintro z w1 ⟨rfl, hB⟩; have hb0 : Below W0.heap.size W0 w1 := (laid1_b W0 _).trans (hB.mono (by simp)); have HB1 := hid (HB.out.trans (hb0.mono HB.out.size)); have HM1 : Hid (OM w1 w.heap.size m.m) := hid (heapB HM.out hb0 (Array.getElem?_eq_some_iff.1 HM.out).1); obtain ⟨cv1, cw1, cl1, cs1, cb1, ca1, cc1, cf1, cg1⟩ := nineV rfl HM1.out HL.out HS.out HAB.out; clear hB hb0)
    | fail)
   go_ret
   rw [HOW.out]
   exact ⟨by first | rfl | (simp [*]; done) | (simp_all; done), HB1.out⟩
 · by_cases hx1 : fl = false
   · by_cases hx2 : s = 0
     · by_cases hx3 : ab = 0
       · go_wp2_with (first
          | (clear tok; (with_reducible refine opaqueW (w.alloc (.cells m.m.arr 48)) ?_); intro W0 hW; rw [← hW] at HB HM; clear hW; have ck0 : W0.cell? ⟨w.heap.size, 0, none⟩ = some (.int .i64 so) := (by have h9 := HM.out.cell (m := m.m) (j := 0) rfl; first | (rw [HSO.out] at h9; exact h9) | (rw [HSO.out]; exact h9)); obtain ⟨cv0, cw0, cl0, cs0, cb0, ca0, cc0, cf0, cg0⟩ := nineV rfl HM.out HL.out HS.out HAB.out)
          | (go_at_call 91; refine (HV.out W0).mono ?_; rintro z w1 ⟨rfl, hB⟩; have hb0 : Below W0.heap.size W0 w1 := (laid1_b W0 _).trans (hB.mono (by simp)); have HB1 := hid (HB.out.trans (hb0.mono HB.out.size)); have HM1 : Hid (OM w1 w.heap.size m.m) := hid (heapB HM.out hb0 (Array.getElem?_eq_some_iff.1 HM.out).1); obtain ⟨cv1, cw1, cl1, cs1, cb1, ca1, cc1, cf1, cg1⟩ := nineV rfl HM1.out HL.out HS.out HAB.out; clear hB hb0)
          | fail)
         go_ret
         rw [HOW.out]
         exact ⟨by first | rfl | (simp [*]; done) | (simp_all; done), HB1.out⟩
       · have hy3 : (ab == 0) = false := by simpa using hx3
         go_wp2_with (first
          | (clear tok; (with_reducible refine opaqueW (w.alloc (.cells m.m.arr 48)) ?_); intro W0 hW; rw [← hW] at HB HM; clear hW; have ck0 : W0.cell? ⟨w.heap.size, 0, none⟩ = some (.int .i64 so) := (by have h9 := HM.out.cell (m := m.m) (j := 0) rfl; first | (rw [HSO.out] at h9; exact h9) | (rw [HSO.out]; exact h9)); obtain ⟨cv0, cw0, cl0, cs0, cb0, ca0, cc0, cf0, cg0⟩ := nineV rfl HM.out HL.out HS.out HAB.out)
          | (go_at_call 91; refine (HV.out W0).mono ?_; rintro z w1 ⟨rfl, hB⟩; have hb0 : Below W0.heap.size W0 w1 := (laid1_b W0 _).trans (hB.mono (by simp)); have HB1 := hid (HB.out.trans (hb0.mono HB.out.size)); have HM1 : Hid (OM w1 w.heap.size m.m) := hid (heapB HM.out hb0 (Array.getElem?_eq_some_iff.1 HM.out).1); obtain ⟨cv1, cw1, cl1, cs1, cb1, ca1, cc1, cf1, cg1⟩ := nineV rfl HM1.out HL.out HS.out HAB.out; clear hB hb0)
          | fail)
         go_ret
         rw [HOW.out]
         exact ⟨by first | rfl | (simp [*]; done) | (simp_all; done), HB1.out⟩
     · have hy2 : (s == 0) = false := by simpa using hx2
       go_wp2_with (first
        | (clear tok; (with_reducible refine opaqueW (w.alloc (.cells m.m.arr 48)) ?_); intro W0 hW; rw [← hW] at HB HM; clear hW; have ck0 : W0.cell? ⟨w.heap.size, 0, none⟩ = some (.int .i64 so) := (by have h9 := HM.out.cell (m := m.m) (j := 0) rfl; first | (rw [HSO.out] at h9; exact h9) | (rw [HSO.out]; exact h9)); obtain ⟨cv0, cw0, cl0, cs0, cb0, ca0, cc0, cf0, cg0⟩ := nineV rfl HM.out HL.out HS.out HAB.out)
        | (go_at_call 91; refine (HV.out W0).mono ?_; rintro z w1 ⟨rfl, hB⟩; have hb0 : Below W0.heap.size W0 w1 := (laid1_b W0 _).trans (hB.mono (by simp)); have HB1 := hid (HB.out.trans (hb0.mono HB.out.size)); have HM1 : Hid (OM w1 w.heap.size m.m) := hid (heapB HM.out hb0 (Array.getElem?_eq_some_iff.1 HM.out).1); obtain ⟨cv1, cw1, cl1, cs1, cb1, ca1, cc1, cf1, cg1⟩ := nineV rfl HM1.out HL.out HS.out HAB.out; clear hB hb0)
        | fail)
       go_ret
       rw [HOW.out]
       exact ⟨by first | rfl | (simp [*]; done) | (simp_all; done), HB1.out⟩
   · have hy1 : fl = true := by simpa using hx1
     go_wp2_with (first
      | (clear tok; (with_reducible refine opaqueW (w.alloc (.cells m.m.arr 48)) ?_); intro W0 hW; rw [← hW] at HB HM; clear hW; have ck0 : W0.cell? ⟨w.heap.size, 0, none⟩ = some (.int .i64 so) := (by have h9 := HM.out.cell (m := m.m) (j := 0) rfl; first | (rw [HSO.out] at h9; exact h9) | (rw [HSO.out]; exact h9)); obtain ⟨cv0, cw0, cl0, cs0, cb0, ca0, cc0, cf0, cg0⟩ := nineV rfl HM.out HL.out HS.out HAB.out)
      | (go_at_call 91; refine (HV.out W0).mono ?_; rintro z w1 ⟨rfl, hB⟩; have hb0 : Below W0.heap.size W0 w1 := (laid1_b W0 _).trans (hB.mono (by simp)); have HB1 := hid (HB.out.trans (hb0.mono HB.out.size)); have HM1 : Hid (OM w1 w.heap.size m.m) := hid (heapB HM.out hb0 (Array.getElem?_eq_some_iff.1 HM.out).1); obtain ⟨cv1, cw1, cl1, cs1, cb1, ca1, cc1, cf1, cg1⟩ := nineV rfl HM1.out HL.out HS.out HAB.out; clear hB hb0)
      | fail)
     go_ret
     rw [HOW.out]
     exact ⟨by first | rfl | (simp [*]; done) | (simp_all; done), HB1.out⟩
end Go.Proofs.YtplodoindppleaaGreat
