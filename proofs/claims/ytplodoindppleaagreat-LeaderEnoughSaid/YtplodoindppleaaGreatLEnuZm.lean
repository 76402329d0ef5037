import Derived.Test.YtplodoindppleaaGreatLEnoZm
namespace Go.Proofs.YtplodoindppleaaGreat
set_option linter.unusedVariables false
open Go.RowKit
open Go.Lib (hid)
set_option maxHeartbeats 16000000 in
set_option maxRecDepth 100000 in
theorem cEnough {vs vg : Value} {sent got : List Ms} {w : World} {m o : Ms} (N : Int) (hs : SlM w vs (mgs sent)) (hg : SlM w vg (mgs got)) (hsA : ∀ x ∈ sent, x.at w) (hsS : ∀ x ∈ sent, x.short 1024) (hsl : sent.length ≤ 1000) (hgA : ∀ x ∈ got, x.at w) (hgS : ∀ x ∈ got, x.short 1024) (hgl : got.length ≤ 1000) (hm : m.at w) (hms : m.short 1024) (ho : o.at w) (hos : o.short 1024) : Calls Tryz.prog 20 #[.int .i64 N, vs, vg, .agg m.m.arr, .agg o.m.arr] w fun e w' => e = .returned (.bool (enoughB N sent got m o)) ∧ Below w.heap.size w w' := by
  have HB0 : Hid (Below w.heap.size w ((w.alloc (.cells m.m.arr 48)).alloc (.cells o.m.arr 48))) := hid (laid2_b w _ _)
  have HM0 : Hid (OM ((w.alloc (.cells m.m.arr 48)).alloc (.cells o.m.arr 48)) w.heap.size m.m) := hid (laidM w m.m o.m).1
  have HO0 : Hid (OM ((w.alloc (.cells m.m.arr 48)).alloc (.cells o.m.arr 48)) (w.heap.size + 1) o.m) := hid (laidM w m.m o.m).2
  have HASK : Hid (∀ W so bal, Below w.heap.size w W → Calls Tryz.prog 50 #[vs, .int .i64 so, .int .i64 bal, .agg #[.int .i64 m.m.c.i, .int .i64 m.m.c.k, .int .i64 m.m.c.s, .int .i64 m.m.c.t, .int .i64 m.m.c.d, .int .i64 m.m.c.p, .int .i64 m.m.c.q], .agg (varr o.m.vt o.m.vp)] W fun e w' => e = .returned (.bool (askB sent so bal m.m.c o)) ∧ Below W.heap.size W w') := hid (fun W so bal hW => cAsk so bal m.m.c (SlG.on hs hW) (fun x hx => (hsA x hx).on hW) hsS hsl (ho.1.on hW) hos.1)
  have HFRM : Hid (∀ W (lk : Ms), Below w.heap.size w W → Calls Tryz.prog 51 #[vg, .agg lk.m.arr] W fun e w' => e = .returned (.int .i64 ((seenF lk got).length : Int)) ∧ Below W.heap.size W w') := hid (fun W lk hW => cFroms (SlG.on hg hW) (fun x hx => (hgA x hx).on hW) hgS hgl)
  have HSAM : Hid (∀ W, Below w.heap.size w W → Calls Tryz.prog 18 #[.agg (varr m.m.vt m.m.vp), .agg (varr o.m.vt o.m.vp)] W fun e w' => e = .returned (.bool (sameVB m o)) ∧ Below W.heap.size W w') := hid (fun W hW => rSameVG m.m.vt o.m.vt (hm.1.on hW) (ho.1.on hW) (Nat.le_trans hms.1 (by decide)) (Nat.le_trans hos.1 (by decide)))
  have HSL : Hid (∀ lk : Ms, (seenF lk got).length ≤ 1000) := hid (fun lk => by have := seen_len lk got []; unfold seenF; simp at this; omega)
  have hsv := hs
  obtain ⟨_, _, capS, adS, rfl, _⟩ := hs
  obtain ⟨_, _, capG, adG, rfl, _⟩ := hg
  obtain ⟨ns, hns⟩ : ∃ z, z = (mgs sent).length := ⟨_, rfl⟩
  obtain ⟨ng, hng⟩ : ∃ z, z = (mgs got).length := ⟨_, rfl⟩
  rw [← hns] at HASK ⊢
  rw [← hng] at HFRM ⊢
  clear hsv hsA hsS hsl hgA hgS hgl hm hms ho hos hns hng
  obtain ⟨R, hR⟩ : ∃ R, R = enoughB N sent got m o := ⟨_, rfl⟩
  have HR := hid hR
  rw [← hR]
  clear hR
  obtain ⟨so, hso⟩ : ∃ z, z = m.m.so := ⟨_, rfl⟩
  have HSO := hid hso
  obtain ⟨mb, hmb⟩ : ∃ z, z = m.m.bal := ⟨_, rfl⟩
  have HMB := hid hmb
  clear hso hmb
  obtain ⟨fa, hfa⟩ : ∃ z, z = faI N := ⟨_, rfl⟩
  have hF := fun W => rFast_any N W
  rw [← hfa] at hF
  have HFA := hid hfa
  obtain ⟨cl, hcl⟩ : ∃ z, z = clI N := ⟨_, rfl⟩
  have hC := fun W => rClassic_any N W
  rw [← hcl] at hC
  have HCL := hid hcl
  clear hfa hcl
  go_enter Tryz.func20, Tryz.ntmps20
  go_upto_region 1 with fail
  generalize ((w.alloc (.cells m.m.arr 48)).alloc (.cells o.m.arr 48)) = W0 at HB0 HM0 HO0 ⊢
  have c0 : W0.cell? ⟨w.heap.size, 0, none⟩ = some (.int .i64 so) := (by rw [HSO.out]; exact OM.cell (m := m.m) (j := 0) HM0.out rfl)
  have c3 : W0.cell? ⟨w.heap.size, 3, none⟩ = some (.int .i64 mb) := (by rw [HMB.out]; exact OM.cell (m := m.m) (j := 3) HM0.out rfl)
  have dc0 : W0.cell? ⟨w.heap.size, 4, none⟩ = some (.int .i64 m.m.c.i) := OM.cell (m := m.m) (j := 4) HM0.out rfl
  have dc1 : W0.cell? ⟨w.heap.size, 5, none⟩ = some (.int .i64 m.m.c.k) := OM.cell (m := m.m) (j := 5) HM0.out rfl
  have dc2 : W0.cell? ⟨w.heap.size, 6, none⟩ = some (.int .i64 m.m.c.s) := OM.cell (m := m.m) (j := 6) HM0.out rfl
  have dc3 : W0.cell? ⟨w.heap.size, 7, none⟩ = some (.int .i64 m.m.c.t) := OM.cell (m := m.m) (j := 7) HM0.out rfl
  have dc4 : W0.cell? ⟨w.heap.size, 8, none⟩ = some (.int .i64 m.m.c.d) := OM.cell (m := m.m) (j := 8) HM0.out rfl
  have dc5 : W0.cell? ⟨w.heap.size, 9, none⟩ = some (.int .i64 m.m.c.p) := OM.cell (m := m.m) (j := 9) HM0.out rfl
  have dc6 : W0.cell? ⟨w.heap.size, 10, none⟩ = some (.int .i64 m.m.c.q) := OM.cell (m := m.m) (j := 10) HM0.out rfl
  by_cases h7 : so = 7
  · as_aux_lemma =>
      subst h7
      go_wp2_with (first
        | ((with_reducible refine loadVl (x := ?vx10) (b := w.heap.size) (o := 11) m.m.vt m.m.vp ?vg10 ?vo10 ?vxx10 ?vc10 ?_); (case vg10 => rfl); (case vo10 => rfl); (case vxx10 => rfl); (case vc10 => exact OM.vV (m := m.m) HM0.out))
        | ((with_reducible refine loadVl (x := ?vx11) (b := (w.heap.size + 1)) (o := 11) o.m.vt o.m.vp ?vg11 ?vo11 ?vxx11 ?vc11 ?_); (case vg11 => rfl); (case vo11 => rfl); (case vxx11 => rfl); (case vc11 => exact OM.vV (m := o.m) HO0.out))
        | (go_at_call 18; refine (HSAM.out _ HB0.out).mono ?_; rintro e w1 ⟨rfl, hb⟩; have HB1 : Hid (Below w.heap.size w w1) := hid (HB0.out.trans (hb.mono HB0.out.size)); clear hb)
        | fail)
      go_ret
      exact ⟨by rw [HR.out]; unfold enoughB; rw [if_pos HSO.out.symm]; rfl, HB1.out⟩
  · by_cases h1 : so = 1
    · subst h1
      obtain ⟨ab, hab⟩ : ∃ z, z = askB sent 0 0 m.m.c o := ⟨_, rfl⟩
      have HAB := hid hab
      have HK : Hid (R = (ab && (decide (mb = 0) && decide (fa ≤ ((seenF (⟨{ zM with so := 1, c := m.m.c, vt := o.m.vt, fl := true }, [], [], []⟩ : Ms) got).length : Int))))) := hid (by rw [HR.out]; unfold enoughB likeK; rw [if_neg (fun h => absurd (HSO.out.trans h) (by decide)), if_pos HSO.out.symm, if_pos HSO.out.symm, ← HAB.out, ← HMB.out, ← HFA.out])
      clear hab
      rcases ab with _ | _
      · as_aux_lemma =>
          go_wp2_with (first
            | ((with_reducible refine loadVl (x := ?vx12) (b := (w.heap.size + 1)) (o := 11) o.m.vt o.m.vp ?vg12 ?vo12 ?vxx12 ?vc12 ?_); (case vg12 => rfl); (case vo12 => rfl); (case vxx12 => rfl); (case vc12 => exact OM.vV (m := o.m) HO0.out))
            | (go_at_call 50; refine (HASK.out _ _ _ HB0.out).mono ?_; rintro e w1 ⟨rfl, hb⟩; rw [← HAB.out]; have HB1 : Hid (Below w.heap.size w w1) := hid (HB0.out.trans (hb.mono HB0.out.size)); have HM1 : Hid (OM w1 w.heap.size m.m) := hid (heapB HM0.out hb (Array.getElem?_eq_some_iff.1 HM0.out).1); have HO1 : Hid (OM w1 (w.heap.size + 1) o.m) := hid (heapB HO0.out hb (Array.getElem?_eq_some_iff.1 HO0.out).1); have f3 : w1.cell? ⟨w.heap.size, 3, none⟩ = some (.int .i64 mb) := (by rw [HMB.out]; exact OM.cell (m := m.m) (j := 3) HM1.out rfl); have f11 : w1.cell? ⟨w.heap.size + 1, 11, none⟩ = some (.int .i64 o.m.vt) := OM.cell (m := o.m) (j := 11) HO1.out rfl; have fc0 : w1.cell? ⟨w.heap.size, 4, none⟩ = some (.int .i64 m.m.c.i) := OM.cell (m := m.m) (j := 4) HM1.out rfl; have fc1 : w1.cell? ⟨w.heap.size, 5, none⟩ = some (.int .i64 m.m.c.k) := OM.cell (m := m.m) (j := 5) HM1.out rfl; have fc2 : w1.cell? ⟨w.heap.size, 6, none⟩ = some (.int .i64 m.m.c.s) := OM.cell (m := m.m) (j := 6) HM1.out rfl; have fc3 : w1.cell? ⟨w.heap.size, 7, none⟩ = some (.int .i64 m.m.c.t) := OM.cell (m := m.m) (j := 7) HM1.out rfl; have fc4 : w1.cell? ⟨w.heap.size, 8, none⟩ = some (.int .i64 m.m.c.d) := OM.cell (m := m.m) (j := 8) HM1.out rfl; have fc5 : w1.cell? ⟨w.heap.size, 9, none⟩ = some (.int .i64 m.m.c.p) := OM.cell (m := m.m) (j := 9) HM1.out rfl; have fc6 : w1.cell? ⟨w.heap.size, 10, none⟩ = some (.int .i64 m.m.c.q) := OM.cell (m := m.m) (j := 10) HM1.out rfl; clear hb)
            | fail)
          go_ret
          exact ⟨by rw [HK.out]; rfl, HB1.out⟩
      · by_cases h0 : mb = 0
        · as_aux_lemma =>
            have hb0 : (mb == 0) = true := by simp [h0]
            have H0 := hid h0
            clear h0
            go_wp2_with (first
              | ((with_reducible refine loadVl (x := ?vx14) (b := (w.heap.size + 1)) (o := 11) o.m.vt o.m.vp ?vg14 ?vo14 ?vxx14 ?vc14 ?_); (case vg14 => rfl); (case vo14 => rfl); (case vxx14 => rfl); (case vc14 => exact OM.vV (m := o.m) HO0.out))
              | (go_at_call 50; refine (HASK.out _ _ _ HB0.out).mono ?_; rintro e w1 ⟨rfl, hb⟩; rw [← HAB.out]; have HB1 : Hid (Below w.heap.size w w1) := hid (HB0.out.trans (hb.mono HB0.out.size)); have HM1 : Hid (OM w1 w.heap.size m.m) := hid (heapB HM0.out hb (Array.getElem?_eq_some_iff.1 HM0.out).1); have HO1 : Hid (OM w1 (w.heap.size + 1) o.m) := hid (heapB HO0.out hb (Array.getElem?_eq_some_iff.1 HO0.out).1); have f3 : w1.cell? ⟨w.heap.size, 3, none⟩ = some (.int .i64 mb) := (by rw [HMB.out]; exact OM.cell (m := m.m) (j := 3) HM1.out rfl); have f11 : w1.cell? ⟨w.heap.size + 1, 11, none⟩ = some (.int .i64 o.m.vt) := OM.cell (m := o.m) (j := 11) HO1.out rfl; have fc0 : w1.cell? ⟨w.heap.size, 4, none⟩ = some (.int .i64 m.m.c.i) := OM.cell (m := m.m) (j := 4) HM1.out rfl; have fc1 : w1.cell? ⟨w.heap.size, 5, none⟩ = some (.int .i64 m.m.c.k) := OM.cell (m := m.m) (j := 5) HM1.out rfl; have fc2 : w1.cell? ⟨w.heap.size, 6, none⟩ = some (.int .i64 m.m.c.s) := OM.cell (m := m.m) (j := 6) HM1.out rfl; have fc3 : w1.cell? ⟨w.heap.size, 7, none⟩ = some (.int .i64 m.m.c.t) := OM.cell (m := m.m) (j := 7) HM1.out rfl; have fc4 : w1.cell? ⟨w.heap.size, 8, none⟩ = some (.int .i64 m.m.c.d) := OM.cell (m := m.m) (j := 8) HM1.out rfl; have fc5 : w1.cell? ⟨w.heap.size, 9, none⟩ = some (.int .i64 m.m.c.p) := OM.cell (m := m.m) (j := 9) HM1.out rfl; have fc6 : w1.cell? ⟨w.heap.size, 10, none⟩ = some (.int .i64 m.m.c.q) := OM.cell (m := m.m) (j := 10) HM1.out rfl; clear hb)
              | ((with_reducible refine wpList_bldV (x := ?vx15) o.m.vt ?vg15 ?vo15 ?ve15 ?_); (case vo15 => rfl); (case vg15 => rfl); (case ve15 => rfl))
              | ((with_reducible refine wpList_bldL1 (x := ?bx16) (y := ?by16) m.m.c o.m.vt ?bg16 ?bo16 ?be16 ?bf16 ?_); (case bo16 => rfl); (case bg16 => rfl); (case be16 => rfl); (case bf16 => rfl))
              | (go_at_call 51; refine (HFRM.out _ ((⟨{ zM with so := 1, c := m.m.c, vt := o.m.vt, fl := true }, [], [], []⟩ : Ms)) HB1.out).mono ?_; rintro e w2 ⟨rfl, hb⟩; have hsz := HSL.out ((⟨{ zM with so := 1, c := m.m.c, vt := o.m.vt, fl := true }, [], [], []⟩ : Ms)); obtain ⟨sn, hsn⟩ : ∃ z, z = (seenF ((⟨{ zM with so := 1, c := m.m.c, vt := o.m.vt, fl := true }, [], [], []⟩ : Ms)) got).length := ⟨_, rfl⟩; rw [← hsn] at hsz ⊢; have HSN := hid hsn; have HB2 : Hid (Below w.heap.size w w2) := hid (HB1.out.trans (hb.mono HB1.out.size)); clear hb hsn)
              | (go_at_call 52; refine (hF _).mono ?_; rintro e w' ⟨rfl, rfl⟩)
              | fail)
            go_ret
            exact ⟨by rw [HK.out, ← HSN.out, decide_eq_true H0.out]; rfl, HB2.out⟩
        · as_aux_lemma =>
            have hb0 : (mb == 0) = false := by simpa using h0
            go_wp2_with (first
              | ((with_reducible refine loadVl (x := ?vx13) (b := (w.heap.size + 1)) (o := 11) o.m.vt o.m.vp ?vg13 ?vo13 ?vxx13 ?vc13 ?_); (case vg13 => rfl); (case vo13 => rfl); (case vxx13 => rfl); (case vc13 => exact OM.vV (m := o.m) HO0.out))
              | (go_at_call 50; refine (HASK.out _ _ _ HB0.out).mono ?_; rintro e w1 ⟨rfl, hb⟩; rw [← HAB.out]; have HB1 : Hid (Below w.heap.size w w1) := hid (HB0.out.trans (hb.mono HB0.out.size)); have HM1 : Hid (OM w1 w.heap.size m.m) := hid (heapB HM0.out hb (Array.getElem?_eq_some_iff.1 HM0.out).1); have HO1 : Hid (OM w1 (w.heap.size + 1) o.m) := hid (heapB HO0.out hb (Array.getElem?_eq_some_iff.1 HO0.out).1); have f3 : w1.cell? ⟨w.heap.size, 3, none⟩ = some (.int .i64 mb) := (by rw [HMB.out]; exact OM.cell (m := m.m) (j := 3) HM1.out rfl); have f11 : w1.cell? ⟨w.heap.size + 1, 11, none⟩ = some (.int .i64 o.m.vt) := OM.cell (m := o.m) (j := 11) HO1.out rfl; have fc0 : w1.cell? ⟨w.heap.size, 4, none⟩ = some (.int .i64 m.m.c.i) := OM.cell (m := m.m) (j := 4) HM1.out rfl; have fc1 : w1.cell? ⟨w.heap.size, 5, none⟩ = some (.int .i64 m.m.c.k) := OM.cell (m := m.m) (j := 5) HM1.out rfl; have fc2 : w1.cell? ⟨w.heap.size, 6, none⟩ = some (.int .i64 m.m.c.s) := OM.cell (m := m.m) (j := 6) HM1.out rfl; have fc3 : w1.cell? ⟨w.heap.size, 7, none⟩ = some (.int .i64 m.m.c.t) := OM.cell (m := m.m) (j := 7) HM1.out rfl; have fc4 : w1.cell? ⟨w.heap.size, 8, none⟩ = some (.int .i64 m.m.c.d) := OM.cell (m := m.m) (j := 8) HM1.out rfl; have fc5 : w1.cell? ⟨w.heap.size, 9, none⟩ = some (.int .i64 m.m.c.p) := OM.cell (m := m.m) (j := 9) HM1.out rfl; have fc6 : w1.cell? ⟨w.heap.size, 10, none⟩ = some (.int .i64 m.m.c.q) := OM.cell (m := m.m) (j := 10) HM1.out rfl; clear hb)
              | fail)
            go_ret
            exact ⟨by rw [HK.out]; simp [h0], HB1.out⟩
    · by_cases h6 : so = 6
      · subst h6
        obtain ⟨ab, hab⟩ : ∃ z, z = askB sent 5 mb m.m.c o := ⟨_, rfl⟩
        have HAB := hid hab
        have HK : Hid (R = (ab && decide (cl ≤ ((seenF (⟨{ zM with so := 6, c := m.m.c, bal := mb }, [], [], []⟩ : Ms) got).length : Int)))) := hid (by rw [HR.out]; unfold enoughB likeK; rw [if_neg (fun h => absurd (HSO.out.trans h) (by decide)), if_neg (fun h => absurd (HSO.out.trans h) (by decide)), if_pos HSO.out.symm, if_neg (fun h => absurd (HSO.out.trans h) (by decide)), ← HMB.out, ← HAB.out, ← HCL.out])
        clear hab
        rcases ab with _ | _
        · as_aux_lemma =>
            go_wp2_with (first
              | ((with_reducible refine loadVl (x := ?vx17) (b := (w.heap.size + 1)) (o := 11) o.m.vt o.m.vp ?vg17 ?vo17 ?vxx17 ?vc17 ?_); (case vg17 => rfl); (case vo17 => rfl); (case vxx17 => rfl); (case vc17 => exact OM.vV (m := o.m) HO0.out))
              | (go_at_call 50; refine (HASK.out _ _ _ HB0.out).mono ?_; rintro e w1 ⟨rfl, hb⟩; rw [← HAB.out]; have HB1 : Hid (Below w.heap.size w w1) := hid (HB0.out.trans (hb.mono HB0.out.size)); have HM1 : Hid (OM w1 w.heap.size m.m) := hid (heapB HM0.out hb (Array.getElem?_eq_some_iff.1 HM0.out).1); have HO1 : Hid (OM w1 (w.heap.size + 1) o.m) := hid (heapB HO0.out hb (Array.getElem?_eq_some_iff.1 HO0.out).1); have f3 : w1.cell? ⟨w.heap.size, 3, none⟩ = some (.int .i64 mb) := (by rw [HMB.out]; exact OM.cell (m := m.m) (j := 3) HM1.out rfl); have f11 : w1.cell? ⟨w.heap.size + 1, 11, none⟩ = some (.int .i64 o.m.vt) := OM.cell (m := o.m) (j := 11) HO1.out rfl; have fc0 : w1.cell? ⟨w.heap.size, 4, none⟩ = some (.int .i64 m.m.c.i) := OM.cell (m := m.m) (j := 4) HM1.out rfl; have fc1 : w1.cell? ⟨w.heap.size, 5, none⟩ = some (.int .i64 m.m.c.k) := OM.cell (m := m.m) (j := 5) HM1.out rfl; have fc2 : w1.cell? ⟨w.heap.size, 6, none⟩ = some (.int .i64 m.m.c.s) := OM.cell (m := m.m) (j := 6) HM1.out rfl; have fc3 : w1.cell? ⟨w.heap.size, 7, none⟩ = some (.int .i64 m.m.c.t) := OM.cell (m := m.m) (j := 7) HM1.out rfl; have fc4 : w1.cell? ⟨w.heap.size, 8, none⟩ = some (.int .i64 m.m.c.d) := OM.cell (m := m.m) (j := 8) HM1.out rfl; have fc5 : w1.cell? ⟨w.heap.size, 9, none⟩ = some (.int .i64 m.m.c.p) := OM.cell (m := m.m) (j := 9) HM1.out rfl; have fc6 : w1.cell? ⟨w.heap.size, 10, none⟩ = some (.int .i64 m.m.c.q) := OM.cell (m := m.m) (j := 10) HM1.out rfl; clear hb)
              | fail)
            go_ret
            exact ⟨by rw [HK.out]; rfl, HB1.out⟩
        · as_aux_lemma =>
            go_wp2_with (first
              | ((with_reducible refine loadVl (x := ?vx18) (b := (w.heap.size + 1)) (o := 11) o.m.vt o.m.vp ?vg18 ?vo18 ?vxx18 ?vc18 ?_); (case vg18 => rfl); (case vo18 => rfl); (case vxx18 => rfl); (case vc18 => exact OM.vV (m := o.m) HO0.out))
              | (go_at_call 50; refine (HASK.out _ _ _ HB0.out).mono ?_; rintro e w1 ⟨rfl, hb⟩; rw [← HAB.out]; have HB1 : Hid (Below w.heap.size w w1) := hid (HB0.out.trans (hb.mono HB0.out.size)); have HM1 : Hid (OM w1 w.heap.size m.m) := hid (heapB HM0.out hb (Array.getElem?_eq_some_iff.1 HM0.out).1); have HO1 : Hid (OM w1 (w.heap.size + 1) o.m) := hid (heapB HO0.out hb (Array.getElem?_eq_some_iff.1 HO0.out).1); have f3 : w1.cell? ⟨w.heap.size, 3, none⟩ = some (.int .i64 mb) := (by rw [HMB.out]; exact OM.cell (m := m.m) (j := 3) HM1.out rfl); have f11 : w1.cell? ⟨w.heap.size + 1, 11, none⟩ = some (.int .i64 o.m.vt) := OM.cell (m := o.m) (j := 11) HO1.out rfl; have fc0 : w1.cell? ⟨w.heap.size, 4, none⟩ = some (.int .i64 m.m.c.i) := OM.cell (m := m.m) (j := 4) HM1.out rfl; have fc1 : w1.cell? ⟨w.heap.size, 5, none⟩ = some (.int .i64 m.m.c.k) := OM.cell (m := m.m) (j := 5) HM1.out rfl; have fc2 : w1.cell? ⟨w.heap.size, 6, none⟩ = some (.int .i64 m.m.c.s) := OM.cell (m := m.m) (j := 6) HM1.out rfl; have fc3 : w1.cell? ⟨w.heap.size, 7, none⟩ = some (.int .i64 m.m.c.t) := OM.cell (m := m.m) (j := 7) HM1.out rfl; have fc4 : w1.cell? ⟨w.heap.size, 8, none⟩ = some (.int .i64 m.m.c.d) := OM.cell (m := m.m) (j := 8) HM1.out rfl; have fc5 : w1.cell? ⟨w.heap.size, 9, none⟩ = some (.int .i64 m.m.c.p) := OM.cell (m := m.m) (j := 9) HM1.out rfl; have fc6 : w1.cell? ⟨w.heap.size, 10, none⟩ = some (.int .i64 m.m.c.q) := OM.cell (m := m.m) (j := 10) HM1.out rfl; clear hb)
              | ((with_reducible refine wpList_bldL6 (x := ?bx20) (y := ?by20) m.m.c mb ?bg20 ?bo20 ?be20 ?bf20 ?_); (case bo20 => rfl); (case bg20 => rfl); (case be20 => rfl); (case bf20 => rfl))
              | (go_at_call 51; refine (HFRM.out _ ((⟨{ zM with so := 6, c := m.m.c, bal := mb }, [], [], []⟩ : Ms)) HB1.out).mono ?_; rintro e w2 ⟨rfl, hb⟩; have hsz := HSL.out ((⟨{ zM with so := 6, c := m.m.c, bal := mb }, [], [], []⟩ : Ms)); obtain ⟨sn, hsn⟩ : ∃ z, z = (seenF ((⟨{ zM with so := 6, c := m.m.c, bal := mb }, [], [], []⟩ : Ms)) got).length := ⟨_, rfl⟩; rw [← hsn] at hsz ⊢; have HSN := hid hsn; have HB2 : Hid (Below w.heap.size w w2) := hid (HB1.out.trans (hb.mono HB1.out.size)); clear hb hsn)
              | (go_at_call 53; refine (hC _).mono ?_; rintro e w' ⟨rfl, rfl⟩)
              | fail)
            go_ret
            exact ⟨by rw [HK.out, ← HSN.out]; rfl, HB2.out⟩
      · as_aux_lemma =>
          have g7 : (so == 7) = false := by simpa using h7
          have g1 : (so == 1) = false := by simpa using h1
          have g6 : (so == 6) = false := by simpa using h6
          have HK : Hid (R = false) := hid (by rw [HR.out]; unfold enoughB; rw [← HSO.out, if_neg h7, if_neg h1, if_neg h6])
          clear h7 h1 h6
          go_wp2_with fail
          go_ret
          exact ⟨by rw [HK.out]; rfl, HB0.out⟩
end Go.Proofs.YtplodoindppleaaGreat
