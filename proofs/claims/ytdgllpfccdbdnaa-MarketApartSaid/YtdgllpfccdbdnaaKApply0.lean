/- The program's market: Apply of a command that may be. -/
import Derived.Test.YtdgllpfccdbdnaaKApplyL
import Derived.Deep.CutRange
namespace Go.Proofs.Ytdgllpfccdbdnaa
set_option linter.unusedVariables false
set_option linter.unusedSimpArgs false
open Go.RowKit
open Go.Lib (hid)

set_option maxHeartbeats 6400000 in
set_option maxRecDepth 100000 in
theorem cApply0 {w : World} {m : Nat} {q : Nat → Nat} {P : Nat → Pl} (h : Mk w m q P) (hok : ∀ i, i < 4 → PlOk (P i)) (ci ck ct cd cp cq : Int) (hc : C7.ok ⟨ci, ck, 0, ct, cd, cp, cq⟩ = true) : Calls Try.prog 8 #[ptr m, cmV ci ck 0 ct cd cp cq] w fun e w' => Appl w w' m e (applyF ⟨ci, ck, 0, ct, cd, cp, cq⟩ P) := by
  obtain ⟨R, hR⟩ : ∃ R, R = doesF ⟨ci, ck, 0, ct, cd, cp, cq⟩ (P 0).bs (P 0).ss := ⟨_, rfl⟩
  have HF : Hid (applyF ⟨ci, ck, 0, ct, cd, cp, cq⟩ P = if overB ((P 0).vol + volF R.2.1) ((P 0).val + valF R.2.1) then (8, [], 0, P) else (R.1, R.2.1, R.2.2.1, upd P 0 (stepF (P 0) R))) := hid (by unfold applyF; rw [if_neg (by rw [hc]; decide), hR]; rfl)
  have hfl := does_ok ⟨ci, ck, 0, ct, cd, cp, cq⟩ (hok 0 (by omega)).1
  rw [← hR] at hfl
  have hvb := vol_bound hfl.1
  have hP1 := (hok 0 (by omega)).2.1
  have hP2 := (hok 0 (by omega)).2.2
  obtain ⟨vf, hvf⟩ : ∃ vf, vf = volF R.2.1 := ⟨_, rfl⟩
  obtain ⟨vl, hvl⟩ : ∃ vl, vl = valF R.2.1 := ⟨_, rfl⟩
  rw [← hvf, ← hvl] at HF hvb
  have hl8 := hfl.2
  have hadd := run_cadd (a := (P 0).vol) (b := (P 0).val) (c := vf) (d := vl) (by omega) (by omega)
  have HOV := hid (fun q' w => cOver q' ((P 0).vol + vf) ((P 0).val + vl) (by omega) (by omega) w)
  have HT : Hid (∀ (W : World) (C : Nat) (v : Value), OwnF W C v R.2.1 → Calls Try.prog 21 #[v] W fun e w' => e = .returned (cxV vf vl) ∧ Below W.heap.size W w') := hid fun W C v hv => by rw [hvf, hvl]; exact cTurns hv hfl.2 hfl.1
  have HC : Hid (∀ W, Below w.heap.size w W → Calls Try.prog 17 #[plV (q 0) (P 0)] W fun e w' => ∃ q', e = .returned (plV q' (P 0)) ∧ (∃ va vb, BkA w' W.heap.size q' va vb (P 0).bs (P 0).ss) ∧ Below W.heap.size W w') := hid fun W hW => cCopied ((h.at' 0 (by omega)).on hW) (hok 0 (by omega)).1
  have HM := hid h
  have HOK := hid hok
  have HRR := hid hR
  have HCC := hid hc
  have HVF := hid (And.intro hvf hvl)
  have hst := stX
  clear h hok hc hR hfl hvb hP1 hP2 hvf hvl hl8
  go_enter Try.func8, Try.ntmps8
  go_wp2_with fail
  go_at_call 18
  obtain ⟨W0, hW0⟩ : ∃ W, W = ((w.alloc (.cells #[.int .i64 ci, .int .i64 ck, .int .i64 0, .int .i64 ct, .int .i64 cd, .int .i64 cp, .int .i64 cq] 42)).alloc box3).alloc (.cells #[.int .i64 ci, .int .i64 ck, .int .i64 0, .int .i64 ct, .int .i64 cd, .int .i64 cp, .int .i64 cq] 42) := ⟨_, rfl⟩
  rw [← hW0]
  have h0 := Ap.start (w := w) ⟨ci, ck, 0, ct, cd, cp, cq⟩
  simp only [C7.cells] at h0
  rw [← hW0] at h0
  refine (cRight1 ⟨ci, ck, 0, ct, cd, cp, cq⟩ _ _ W0 h0.2.1).mono ?_
  rintro e w1 ⟨rfl, hB1⟩
  rw [HCC.out]
  have HA1 := hid (h0.1.below (hB1.mono h0.2.2))
  have hS1 : w.heap.size + 2 ≤ w1.heap.size := Nat.le_trans h0.2.2 hB1.size
  clear h0 hB1 hW0
  obtain ⟨i0, i1, i2, i3, i4, i5, i6⟩ := HA1.out.cells
  simp only at i0 i1 i2 i3 i4 i5 i6
  have hM1 := HM.out.on HA1.out.be
  obtain ⟨hm1, ⟨g0, g1, g2, g3, g4, g5, g6, g7⟩, _⟩ := MkO.cells hM1.ob
  simp only at g0 g1 g2 g3 g4 g5 g6 g7
  clear hM1
  have i2a := Lib.cell?_alloc_some (.cells #[.pointer none, .complex .f64 0 0] 59) i2
  have gaa := Lib.cell?_alloc_some (.cells #[.pointer none, .complex .f64 0 0] 59) g0
  have gba := Lib.cell?_alloc_some (.cells #[.pointer none, .complex .f64 0 0] 59) g1
  go_upto_region 3 with fail
  go_cut [5] from 16 to 23 (fun s5 wx => ∃ N q', s5 = .pointer (some ⟨N, 0, none⟩) ∧ Hid (Ap3 w wx ⟨ci, ck, 0, ct, cd, cp, cq⟩ N q' (cx (P 0)) (P 0).bs (P 0).ss))
  case first =>
    go_region_law (first
      | (go_simp; go_at_call 17; (
          refine (HC.out (w1.drew.alloc (.cells #[.pointer none, .complex .f64 0 0] 59)) (HA1.out.be.drew.alloc HA1.out.be.size _)).mono ?_
          rintro e w2 ⟨q', rfl, ⟨va, vb, hK⟩, hB⟩
          have hx := Ap.before (x := cx (P 0)) HA1.out hS1 hB hK
          have HX := hid hx.2
          have y0 := cellAt' hx.1 0
          have y1 := cellAt' hx.1 1
          have fz : ∀ f, w2.frozen? ⟨w1.heap.size, f, none⟩ = false := fun f => by have h3 := hx.1; simp [World.frozen?, h3]
          simp at y0 y1
          clear hx hK hB))
      | (go_simp; go_at_call 17; (
          refine (HC.out w1.drew HA1.out.be.drew).mono ?_
          rintro e w2 ⟨q', rfl, ⟨va, vb, hK⟩, hB⟩
          have HX := hid (Ap.after (x := cx (P 0)) HA1.out hS1 hB hK)
          clear hK hB)))
    all_goals (
      go_wp2_with fail
      go_meet
      exact ⟨_, _, rfl, HX⟩)
  case rest =>
    clear i2a gaa gba i0 i1 i2 i3 i4 i5 i6 g0 g1 g2 g3 g4 g5 g6 g7
    obtain ⟨N5, q', rfl, H3⟩ := hcut
    obtain ⟨⟨y0, y1⟩, yf, hN5⟩ := H3.out.cells
    obtain ⟨i0, i1, i2, i3, i4, i5, i6⟩ := H3.out.ap.cells
    simp only at i0 i1 i2 i3 i4 i5 i6
    go_wp2_with fail
    go_at_call 20
    obtain ⟨va, vb, hK⟩ := H3.out.bk
    refine (cDoes hK (HOK.out 0 (by omega)).1 (by have := H3.out.h5; omega) (P 0).vol (P 0).val ⟨ci, ck, 0, ct, cd, cp, cq⟩).mono ?_
    rintro e w4 ⟨err, fs, left, bs', ss', hT, hF, hE⟩
    have hR2 : R = (err, fs, left, bs', ss') := HRR.out.trans hE.symm
    subst hR2
    simp only at HF HT HVF
    obtain ⟨fa, fn, fc, rfl, h5⟩ := H3.out.does hK hT
    have H5 := hid h5
    have HFi := hid hF
    clear hK hT hF hE h5 y0 y1 yf hN5 i0 i1 i2 i3 i4 i5 i6
    go_upto_region 5 with fail
    generalize hN6 : w4.heap.size = N6 at H5 ⊢
    generalize hw5 : w4.alloc _ = w5 at H5 ⊢
    obtain ⟨⟨y0, y1⟩, yf, hN5⟩ := H5.out.ap3.cells
    obtain ⟨z0, z1, z2⟩ := H5.out.rep
    clear hN6 hw5
    go_cut [33] from 27 to 32 (fun s33 wx => Hid (Ap5 w wx ⟨ci, ck, 0, ct, cd, cp, cq⟩ N5 N6 q' (cxV ((P 0).vol + vf) ((P 0).val + vl)) err (.slice fa fn fc) left bs' ss' fs))
    case first =>
      go_region_law (first
        | (go_simp; go_at_call 21; (
            refine (HT.out _ _ _ (H5.out.fl.on (Below.refl _ w5).drew)).mono ?_
            rintro e w6 ⟨rfl, hB⟩
            have hx := H5.out.turned hB
            obtain ⟨⟨b0, b1⟩, bf, hb5⟩ := hx.ap3.cells
            have HX := hid (hx.put (cxV ((P 0).vol + vf) ((P 0).val + vl)))
            clear hx hB)))
      all_goals (
        go_wp2_with fail
        go_meet
        exact HX)
    case rest =>
      clear y0 y1 yf hN5 z0 z1 z2
      have H7 := hcut
      obtain ⟨⟨y0, y1⟩, yf, hN5⟩ := H7.out.ap3.cells
      go_wp2_with fail
      go_at_call 22
      refine (HOV.out q' _).mono ?_
      rintro e w8 ⟨rfl, hB⟩
      have H8 := hid (H7.out.below hB)
      clear hB y0 y1 yf hN5
      rcases hov : overB ((P 0).vol + vf) ((P 0).val + vl) with _ | _
      · have HO := hid hov
        rw [hov] at HF
        clear hov
        obtain ⟨⟨y0, y1⟩, yf, hN5⟩ := H8.out.ap3.cells
        obtain ⟨i0, i1, i2, i3, i4, i5, i6⟩ := H8.out.ap3.ap.cells
        simp only at i0 i1 i2 i3 i4 i5 i6
        obtain ⟨hm8, ⟨g0, g1, g2, g3, g4, g5, g6, g7⟩, gf⟩ := MkO.cells (HM.out.on H8.out.ap3.ap.be).ob
        simp only at g0 g1 g2 g3 g4 g5 g6 g7
        go_upto_region 8 with fail
        go_cut [44] from 37 to 43 (fun s44 wx => wx.os = w8.os ∧ Hid (wx = ((w8.drew.setCell ⟨m, 0, none⟩ (ptr q')).setCell ⟨m, 1, none⟩ (cxV ((P 0).vol + vf) ((P 0).val + vl)))))
        case first =>
          go_region_law (fail)
          all_goals (
            go_wp2_with fail
            go_meet
            exact ⟨rfl, hid rfl⟩)
        case rest =>
          clear y0 y1 yf hN5 i0 i1 i2 i3 i4 i5 i6 g0 g1 g2 g3 g4 g5 g6 g7 gf
          obtain ⟨_, HW9⟩ := hcut
          have hfin := H8.out.fin HM.out (S := 0) (by omega) (stepF (P 0) (err, fs, left, bs', ss')) rfl rfl wc (by rw [HW9.out, show (stepF (P 0) (err, fs, left, bs', ss')) = ⟨bs', ss', (P 0).vol + vf, (P 0).val + vl⟩ from by rw [HVF.out.1, HVF.out.2]; rfl])
          obtain ⟨⟨k0, k1, k2⟩, fz⟩ := hfin.1
          obtain ⟨z0, z1, z2⟩ := hfin.2.1
          have HL := hid hfin.2.2
          clear hfin HW9
          go_wp2_with fail
          refine bodyPost_ret (v := rpV err (.slice fa fn fc) left) (by simp [results, Try.results8, go_sem, k0, k1, k2]) rfl ?_
          rw [HF.out]
          have h9 := HL.out (.int .i64 err) (.slice fa fn fc) (.int .i64 left)
          refine ⟨fun i hi => ?_, _, _, rfl, h9.1, h9.2.1, h9.2.2⟩
          exact ok_upd HOK.out HFi.out (by have := HO.out; rw [HVF.out.1, HVF.out.2] at this; exact this) i hi
      · rw [hov] at HF
        clear hov
        go_wp2_with fail
        go_at_call 19
        refine (cMFailed _ _).mono ?_
        rintro e w9 ⟨rfl, hB⟩
        have H9 := hid (H8.out.below hB)
        obtain ⟨⟨k0, k1, k2⟩, fz⟩ := H9.out.ap3.ap.box
        clear hB
        go_wp2_with fail
        refine bodyPost_ret (v := rpV 8 (.slice none 0 0) 0) (by simp [results, Try.results8, go_sem, k0, k1, k2]) rfl ?_
        rw [HF.out]
        have hB := fun x y z => below_set3 H9.out.ap3.ap.be (N := w.heap.size + 1) (by omega) x y z
        exact ⟨HOK.out, _, q, rfl, World.ownsRow_nil _ _ _ _, HM.out.on (hB _ _ _), Tch.ofBelow (hB _ _ _)⟩
end Go.Proofs.Ytdgllpfccdbdnaa
