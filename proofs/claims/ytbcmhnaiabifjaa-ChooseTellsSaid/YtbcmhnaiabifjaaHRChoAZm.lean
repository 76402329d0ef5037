import Derived.Test.YtbcmhnaiabifjaaG31
namespace Go.Proofs.Ytbcmhnaiabifjaa
set_option linter.unusedVariables false
open Go.RowKit
open Go.Lib (hid)
set_option maxHeartbeats 32000000 in
set_option maxRecDepth 100000 in
theorem rChooseA {v : Value} {ls : List Ms} {w : World} (n : Int) (h : SlM w v (mgs ls)) (hA : ∀ m ∈ ls, m.at w) (hS : ∀ m ∈ ls, m.short 1024) (hl : ls.length ≤ 40) (hpb : promB n ls = true) (hfS : ls.find? isS = none) {z : Ms} (hfA : accF ls = some z) : Calls Try.prog 9 #[.int .i64 n, v] w (RChooseP w n ls) := by
  have HFS := hid hfS
  have HFA := hid hfA
  have HBW0 : Hid (0 < ls.length) := hid (prom_all hpb).2
  have HP4 := hid (prom_four hpb hfS)
  clear hfS hfA
  have HSL0 := hid h
  have HSH := hid hS
  clear hS
  have HLL := hid hl
  have HPR := hid hpb
  obtain ⟨b, o, cap, a, rfl, ha, hc, hb⟩ := h
  have hlm : (mgs ls).length = ls.length := by unfold mgs; rw [List.length_map]
  rw [hlm] at ha hb ⊢
  have HA := hid hA
  have HCC := hid hc
  obtain ⟨m, hm⟩ : ∃ m, m = ls.length := ⟨_, rfl⟩
  rw [← hm] at ha hb hl ⊢
  have HN := hid hm
  clear hm hA hc hlm
  have HSL : Hid (SlM w (.slice a m cap) (mgs ls)) := hid (by have e : (mgs ls).length = m := (by unfold mgs; rw [List.length_map]; exact HN.out.symm); have hs := HSL0.out; rw [e] at hs; exact hs)
  clear HSL0
  have hm1 : m ≤ 40 := by omega
  have hm0 : 0 < m := by rw [HN.out]; exact HBW0.out
  have HBW := hid (hb hm0)
  obtain rfl := ha hm0
  have HCP : Hid (∀ W, Below w.heap.size w W → Calls Try.prog 24 #[.int .i64 n, .slice (some ⟨b, o, none⟩) m cap] W fun e w' => e = .returned (.bool true) ∧ Below W.heap.size W w') := hid (fun W hW => by have := rPromises n (HSL.out.on hW) (fun x hx => (HA.out x hx).on hW) HSH.out (by have := HLL.out; omega); rw [hpb] at this; exact this)
  have HCF : Hid (∀ W, Below w.heap.size w W → Calls Try.prog 11 #[.slice (some ⟨b, o, none⟩) m cap] W (FreshP W ls)) := hid (fun W hW => rFreshM (HSL.out.on hW) (fun x hx => (HA.out x hx).on hW) HSH.out HLL.out)
  have HB0 : Hid (Below w.heap.size w (w.alloc zeroVc)) := hid ((Below.refl _ w).alloc (Nat.le_refl _) _)
  have HR0 : Hid (RoomV (w.alloc zeroVc) w.heap.size) := hid (roomVZ w)
  clear hpb
  go_enter Try.func9, Try.ntmps9
  go_wp2_with (first | (go_at_call 24; refine (HCP.out _ HB0.out).mono ?_; rintro e w1 ⟨rfl, hB⟩; have HB1 : Hid (Below w.heap.size w w1) := hid (HB0.out.trans (hB.mono HB0.out.size)); have HR1 := hid (HR0.out.on hB); clear hB) | fail)
  go_loopw [10] (fun i wr => ∃ k : Nat, k ≤ m ∧ i = .int .i64 k ∧ Hid (∀ x ∈ ls.take k, isS x = false) ∧ Hid (Below w1.heap.size w1 wr)) (fun i _ => m - (RowKit.intOf i).toNat)
  case atStart => exact ⟨0, Nat.zero_le _, rfl, hid (by simp), hid (Below.refl _ _)⟩
  case round =>
    obtain ⟨k, hk, rfl, HN0, HBa⟩ := hrel
    have HB : Hid (Below w.heap.size w wr) := hid (HB1.out.trans (HBa.out.mono HB1.out.size))
    have HR : Hid (RoomV wr w.heap.size) := hid (HR1.out.on HBa.out)
    by_cases hlt : k < m
    · as_aux_lemma =>
        have hlti : ((k : Int) < m) := by omega
        obtain ⟨y, hy⟩ : ∃ y, ls[k]? = some y := ⟨ls[k]'(by rw [← HN.out]; exact hlt), List.getElem?_eq_getElem (by rw [← HN.out]; exact hlt)⟩
        have HR_y : Hid (∀ W, Below w.heap.size w W → W.rangeAt b (o + k * 20) y.m.list) := hid (fun W hW => (HCC.out.on hW fun _ => HBW.out) k y.m (at_mgs hy))
        have HE_y := hid hy
        clear hy
        obtain ⟨so, hso⟩ : ∃ z, z = y.m.so := ⟨_, rfl⟩
        have HSO := hid hso
        clear hso
        have c0 : wr.cell? ⟨b, o + k * 20, none⟩ = some (.int .i64 so) := by rw [HSO.out]; exact HR_y.out _ HB.out 0 _ rfl
        have h7 : ¬ so = 7 := by have := List.find?_eq_none.1 HFS.out y (List.mem_of_getElem? HE_y.out); unfold isS at this; rw [← HSO.out] at this; simpa using this
        have HP : Hid (isS y = false) := hid (by unfold isS; rw [← HSO.out]; exact decide_eq_false h7)
        have s7 : (so == 7) = false := by simp [h7]
        clear h7
        go_wp2_with fail
        go_roundw
        case rel => exact ⟨k + 1, by omega, by go_num, hid (no_next HE_y.out HN0.out HP.out), HBa⟩
        case measure => first | omega | (simp [RowKit.intOf]; omega)
    · as_aux_lemma =>
        have hlti : ¬ ((k : Int) < m) := by omega
        go_wp2_with fail
        go_loopw [8, 9, 11] (fun s8 s9 i wr => ∃ (k j : Nat), k ≤ m ∧ j < m ∧ i = .int .i64 k ∧ s8 = .int .i64 j ∧ s9 = .bool (flagB (ls.take k)) ∧ Hid (BestI ls k j) ∧ Hid (Below w1.heap.size w1 wr)) (fun _ _ i _ => m - (RowKit.intOf i).toNat)
        case atStart => exact ⟨0, 0, Nat.zero_le _, hm0, rfl, rfl, rfl, hid (.inl ⟨rfl, rfl⟩), HBa⟩
        case round =>
          obtain ⟨k, j, hk, hj, rfl, rfl, rfl, HBI, HBb⟩ := hrel
          have HBc : Hid (Below w.heap.size w wr) := hid (HB1.out.trans (HBb.out.mono HB1.out.size))
          have HRc : Hid (RoomV wr w.heap.size) := hid (HR1.out.on HBb.out)
          have hji : (j : Int) < m := by omega
          by_cases hlt : k < m
          · as_aux_lemma =>
              have hlti : ((k : Int) < m) := by omega
              obtain ⟨y, hy⟩ : ∃ y, ls[k]? = some y := ⟨ls[k]'(by rw [← HN.out]; exact hlt), List.getElem?_eq_getElem (by rw [← HN.out]; exact hlt)⟩
              have HR_y : Hid (∀ W, Below w.heap.size w W → W.rangeAt b (o + k * 20) y.m.list) := hid (fun W hW => (HCC.out.on hW fun _ => HBW.out) k y.m (at_mgs hy))
              have HE_y := hid hy
              clear hy
              obtain ⟨x, hx⟩ : ∃ y, ls[j]? = some y := ⟨ls[j]'(by rw [← HN.out]; exact hj), List.getElem?_eq_getElem (by rw [← HN.out]; exact hj)⟩
              have HR_x : Hid (∀ W, Below w.heap.size w W → W.rangeAt b (o + j * 20) x.m.list) := hid (fun W hW => (HCC.out.on hW fun _ => HBW.out) j x.m (at_mgs hx))
              have HE_x := hid hx
              clear hx
              obtain ⟨ya, hya⟩ : ∃ z, z = y.m.ab := ⟨_, rfl⟩
              have HYB := hid hya
              clear hya
              obtain ⟨xa, hxa⟩ : ∃ z, z = x.m.ab := ⟨_, rfl⟩
              have HXA := hid hxa
              clear hxa
              obtain ⟨fk, hfk⟩ : ∃ z, z = flagB (ls.take k) := ⟨_, rfl⟩
              rw [← hfk]
              have HFK := hid hfk
              clear hfk
              obtain ⟨yf, hyf⟩ : ∃ z, z = y.m.fl := ⟨_, rfl⟩
              have HYF := hid hyf
              clear hyf
              have HCa : Hid (∀ W, Below w.heap.size w W → W.cell? ⟨b, o + k * 20 + 15, none⟩ = some (.int .i64 ya) ∧ W.cell? ⟨b, o + k * 20 + 13, none⟩ = some (.bool yf)) := hid (fun W hW => by rw [HYB.out, HYF.out]; exact ⟨HR_y.out W hW 15 _ rfl, HR_y.out W hW 13 _ rfl⟩)
              have HCb : Hid (∀ W, Below w.heap.size w W → W.cell? ⟨b, o + j * 20 + 15, none⟩ = some (.int .i64 xa)) := hid (fun W hW => by rw [HXA.out]; exact HR_x.out W hW 15 _ rfl)
              obtain ⟨c0, c2⟩ := HCa.out _ HBc.out
              have c1 := HCb.out _ HBc.out
              have HST := hid (HBI.out.step HE_x.out HE_y.out (four_ab (HP4.out y (List.mem_of_getElem? HE_y.out))))
              by_cases hab : xa < ya
              · as_aux_lemma =>
                  have hab' : ya > xa := hab
                  have HIF : Hid ((if xa < ya then k else j) = k) := hid (if_pos hab)
                  go_wp2_with fail
                  go_quiet (fail)
                  obtain ⟨Wq, hWq⟩ : ∃ Wq, Wq = wr.drewN nq := ⟨_, rfl⟩
                  rw [← hWq]
                  have HWQ : Hid (Below w1.heap.size w1 Wq) := hid (by rw [hWq]; exact Below.drewN' HBb.out _)
                  clear hWq c0 c1 c2
                  obtain ⟨c0, c2⟩ := HCa.out _ (HB1.out.trans (HWQ.out.mono HB1.out.size))
                  rcases fk with _ | _
                  · as_aux_lemma =>
                      rcases yf with _ | _
                      · as_aux_lemma =>
                          go_wp2_with fail
                          go_roundw
                          case rel => exact ⟨k + 1, k, by omega, by omega, by go_num, rfl, by rw [flag_next HE_y.out, ← HFK.out, ← HYF.out]; rfl, hid (by have := HST.out; rw [← HXA.out, ← HYB.out, HIF.out] at this; exact this), HWQ⟩
                          case measure => first | omega | (simp [RowKit.intOf]; omega)
                      · as_aux_lemma =>
                          go_wp2_with fail
                          go_roundw
                          case rel => exact ⟨k + 1, k, by omega, by omega, by go_num, rfl, by rw [flag_next HE_y.out, ← HFK.out, ← HYF.out]; rfl, hid (by have := HST.out; rw [← HXA.out, ← HYB.out, HIF.out] at this; exact this), HWQ⟩
                          case measure => first | omega | (simp [RowKit.intOf]; omega)
                  · as_aux_lemma =>
                      go_wp2_with fail
                      go_roundw
                      case rel => exact ⟨k + 1, k, by omega, by omega, by go_num, rfl, by rw [flag_next HE_y.out, ← HFK.out, ← HYF.out]; rfl, hid (by have := HST.out; rw [← HXA.out, ← HYB.out, HIF.out] at this; exact this), HWQ⟩
                      case measure => first | omega | (simp [RowKit.intOf]; omega)
              · as_aux_lemma =>
                  have hab' : ¬ ya > xa := hab
                  have HIF : Hid ((if xa < ya then k else j) = j) := hid (if_neg hab)
                  go_wp2_with fail
                  go_quiet (fail)
                  obtain ⟨Wq, hWq⟩ : ∃ Wq, Wq = wr.drewN nq := ⟨_, rfl⟩
                  rw [← hWq]
                  have HWQ : Hid (Below w1.heap.size w1 Wq) := hid (by rw [hWq]; exact Below.drewN' HBb.out _)
                  clear hWq c0 c1 c2
                  obtain ⟨c0, c2⟩ := HCa.out _ (HB1.out.trans (HWQ.out.mono HB1.out.size))
                  rcases fk with _ | _
                  · as_aux_lemma =>
                      rcases yf with _ | _
                      · as_aux_lemma =>
                          go_wp2_with fail
                          go_roundw
                          case rel => exact ⟨k + 1, j, by omega, by omega, by go_num, rfl, by rw [flag_next HE_y.out, ← HFK.out, ← HYF.out]; rfl, hid (by have := HST.out; rw [← HXA.out, ← HYB.out, HIF.out] at this; exact this), HWQ⟩
                          case measure => first | omega | (simp [RowKit.intOf]; omega)
                      · as_aux_lemma =>
                          go_wp2_with fail
                          go_roundw
                          case rel => exact ⟨k + 1, j, by omega, by omega, by go_num, rfl, by rw [flag_next HE_y.out, ← HFK.out, ← HYF.out]; rfl, hid (by have := HST.out; rw [← HXA.out, ← HYB.out, HIF.out] at this; exact this), HWQ⟩
                          case measure => first | omega | (simp [RowKit.intOf]; omega)
                  · as_aux_lemma =>
                      go_wp2_with fail
                      go_roundw
                      case rel => exact ⟨k + 1, j, by omega, by omega, by go_num, rfl, by rw [flag_next HE_y.out, ← HFK.out, ← HYF.out]; rfl, hid (by have := HST.out; rw [← HXA.out, ← HYB.out, HIF.out] at this; exact this), HWQ⟩
                      case measure => first | omega | (simp [RowKit.intOf]; omega)
          · as_aux_lemma =>
              have hlti : ¬ ((k : Int) < m) := by omega
              have HKM : Hid (k = m) := hid (by omega)
              obtain ⟨x, hx⟩ : ∃ y, ls[j]? = some y := ⟨ls[j]'(by rw [← HN.out]; exact hj), List.getElem?_eq_getElem (by rw [← HN.out]; exact hj)⟩
              have HR_x : Hid (∀ W, Below w.heap.size w W → W.rangeAt b (o + j * 20) x.m.list) := hid (fun W hW => (HCC.out.on hW fun _ => HBW.out) j x.m (at_mgs hx))
              have HE_x := hid hx
              clear hx
              obtain ⟨xa, hxa⟩ : ∃ z, z = x.m.ab := ⟨_, rfl⟩
              have HXA := hid hxa
              clear hxa
              have c1 : wr.cell? ⟨b, o + j * 20 + 15, none⟩ = some (.int .i64 xa) := by rw [HXA.out]; exact HR_x.out _ HBc.out 15 _ rfl
              have HEND := hid (BestI.end (ls := ls) (j := j) (by have := HBI.out; rwa [HKM.out, HN.out] at this) HBW0.out HE_x.out)
              obtain rfl : x = z := by rcases HEND.out with ⟨h, _⟩ | ⟨h, _⟩; exact absurd (h.symm.trans HFA.out) (by simp); exact Option.some.inj (h.symm.trans HFA.out)
              have hxa : xa > 0 := by rcases HEND.out with ⟨h, _⟩ | ⟨_, h⟩; exact absurd (h.symm.trans HFA.out) (by simp); rw [HXA.out]; exact h
              go_wp2_with fail
              refine rh_start (S := fun W => Below w.heap.size w W) (n := 8) (listed := #[false, false, false, false, false, false, false, false]) (by kernel_rfl) rfl rfl ?_
              have HS0 : Hid (Below w.heap.size w wr.drew) := hid (HBc.out.trans ((belowDrew (Below.refl _ _)).mono HBc.out.size))
              have HRd : Hid (RoomV wr.drew w.heap.size) := hid (HRc.out)
              have HWd : Hid (Below wr.heap.size wr wr.drew) := hid (belowDrew (Below.refl _ _))
              generalize wr.drew = wd at HS0 HRd HWd ⊢
              refine rh_takeS (i := 0) (o := ?o10) (v := ?v10) (listed' := ?l10) (a' := ?a10) ?hi10 (by kernel_rfl) (by kernel_rfl) (by kernel_rfl) ?hq10 ?hl10 ?hw10 ?hv10 ?ha10 HS0.out ?hh10
              case hi10 => (simp only [List.getElem?_toArray, List.getElem?_cons_zero]; try rfl)
              case hq10 => exact fun _ _ _ h => h
              case hl10 => (simp only [List.setIfInBounds_toArray, List.set_cons_zero]; try rfl)
              case hw10 => rfl
              case hv10 =>
                intro W hW
                skip
                go_simp
                try with_reducible rfl
              case ha10 => (simp only [Act.put, List.setIfInBounds_toArray, List.set_cons_succ, List.set_cons_zero]; try rfl)
              refine rh_takeS (i := 1) (o := ?o11) (v := ?v11) (listed' := ?l11) (a' := ?a11) ?hi11 (by kernel_rfl) (by kernel_rfl) (by kernel_rfl) ?hq11 ?hl11 ?hw11 ?hv11 ?ha11 HS0.out ?hh11
              case hi11 => (simp only [List.getElem?_toArray, List.getElem?_cons_succ, List.getElem?_cons_zero]; try rfl)
              case hq11 => exact fun _ _ _ h => h
              case hl11 => (simp only [List.setIfInBounds_toArray, List.set_cons_succ, List.set_cons_zero]; try rfl)
              case hw11 => rfl
              case hv11 =>
                intro W hW
                skip
                go_simp
                try with_reducible rfl
              case ha11 => (simp only [Act.put, List.setIfInBounds_toArray, List.set_cons_succ, List.set_cons_zero]; try rfl)
              refine rh_takeS (i := 2) (o := ?o12) (v := ?v12) (listed' := ?l12) (a' := ?a12) ?hi12 (by kernel_rfl) (by kernel_rfl) (by kernel_rfl) ?hq12 ?hl12 ?hw12 ?hv12 ?ha12 HS0.out ?hh12
              case hi12 => (simp only [List.getElem?_toArray, List.getElem?_cons_succ, List.getElem?_cons_zero]; try rfl)
              case hq12 => exact fun _ _ _ h => h
              case hl12 => (simp only [List.setIfInBounds_toArray, List.set_cons_succ, List.set_cons_zero]; try rfl)
              case hw12 => rfl
              case hv12 =>
                intro W hW
                skip
                go_simp
                try with_reducible rfl
              case ha12 => (simp only [Act.put, List.setIfInBounds_toArray, List.set_cons_succ, List.set_cons_zero]; try rfl)
              refine rh_takeS (i := 3) (o := ?o13) (v := ?v13) (listed' := ?l13) (a' := ?a13) ?hi13 (by kernel_rfl) (by kernel_rfl) (by kernel_rfl) ?hq13 ?hl13 ?hw13 ?hv13 ?ha13 HS0.out ?hh13
              case hi13 => (simp only [List.getElem?_toArray, List.getElem?_cons_succ, List.getElem?_cons_zero]; try rfl)
              case hq13 => exact fun _ _ _ h => h
              case hl13 => (simp only [List.setIfInBounds_toArray, List.set_cons_succ, List.set_cons_zero]; try rfl)
              case hw13 => rfl
              case hv13 =>
                intro W hW
                skip
                go_simp
                try with_reducible rfl
              case ha13 => (simp only [Act.put, List.setIfInBounds_toArray, List.set_cons_succ, List.set_cons_zero]; try rfl)
              refine rh_load (i := 4) (o := ?o14) (cs := vcs x.m.xt x.m.xp) (T := 28) (x := ?x14) (b := ?b14) (q := ?q14) (listed' := ?l14) (a' := ?a14) ?hi14 (by kernel_rfl) (by kernel_rfl) (by kernel_rfl) ?hq14 ?hl14 ?hg14 ?ho14 ?hx14 ?hc14 Try.underlying28 rfl (infoVl x.m.xt x.m.xp) ?ha14 HS0.out ?hh14
              case hi14 => (simp only [List.getElem?_toArray, List.getElem?_cons_succ, List.getElem?_cons_zero]; try rfl)
              case hq14 => exact fun _ _ _ h => h
              case hl14 => (simp only [List.setIfInBounds_toArray, List.set_cons_succ, List.set_cons_zero]; try rfl)
              case hg14 => rfl
              case ho14 => rfl
              case hx14 => rfl
              case hc14 => exact fun W hW => rngA (HR_x.out W hW)
              case ha14 => (show Act.put _ _ (Value.agg (varr x.m.xt x.m.xp)) = _); (simp only [Act.put, List.setIfInBounds_toArray, List.set_cons_succ, List.set_cons_zero]; try rfl)
              refine rh_takeS (i := 5) (o := ?o15) (v := ?v15) (listed' := ?l15) (a' := ?a15) ?hi15 (by kernel_rfl) (by kernel_rfl) (by kernel_rfl) ?hq15 ?hl15 ?hw15 ?hv15 ?ha15 HS0.out ?hh15
              case hi15 => (simp only [List.getElem?_toArray, List.getElem?_cons_succ, List.getElem?_cons_zero]; try rfl)
              case hq15 => exact fun _ _ _ h => h
              case hl15 => (simp only [List.setIfInBounds_toArray, List.set_cons_succ, List.set_cons_zero]; try rfl)
              case hw15 => rfl
              case hv15 =>
                intro W hW
                skip
                go_simp
                try with_reducible rfl
              case ha15 => (simp only [Act.put, List.setIfInBounds_toArray, List.set_cons_succ, List.set_cons_zero]; try rfl)
              obtain ⟨C, hC1, hC2⟩ := HRd.out
              have HRC := hid (And.intro hC1 hC2)
              clear hC1 hC2
              refine wpAnyH_ready (rs := [6]) (by kernel_rfl) (by simp) ?_
              refine rh_storeN (i := 6) (o := ?o16) (listed' := ?l16) (x := ?x16) (y := ?y16) (b := w.heap.size) (T := 28) (varr x.m.xt x.m.xp) (infoVl' x.m.xt x.m.xp) (varr_one x.m.xt x.m.xp) ?hi16 ?hl16 ?hg16 ?ho16 ?hx16 ?hy16 ?hd16 HRC.out.1 HRC.out.2 ?hh16 ?hs16
              case hi16 => (simp only [List.getElem?_toArray, List.getElem?_cons_succ, List.getElem?_cons_zero]; try rfl)
              case hl16 => (simp only [List.setIfInBounds_toArray, List.set_cons_succ, List.set_cons_zero]; try rfl)
              case hg16 => rfl
              case ho16 => rfl
              case hx16 => rfl
              case hy16 => rfl
              case hd16 => rfl
              case hs16 => exact AllReadyH.nil
              intro WZ hO hU
              have HOZ : Hid (OV WZ w.heap.size x.m.xt x.m.xp) := hid hO
              have HBZ : Hid (Below w.heap.size wd WZ) := hid (hU.below _ (Nat.le_refl _))
              have HUZ := hid hU
              clear hO hU
              have HSZ : Hid (Below w.heap.size w WZ) := hid (HS0.out.trans HBZ.out)
              refine ⟨HSZ.out, ?_⟩
              refine rh_takeS (i := 7) (o := ?o17) (v := ?v17) (listed' := ?l17) (a' := ?a17) ?hi17 (by kernel_rfl) (by kernel_rfl) (by kernel_rfl) ?hq17 ?hl17 ?hw17 ?hv17 ?ha17 HSZ.out ?hh17
              case hi17 => (simp only [List.getElem?_toArray, List.getElem?_cons_succ, List.getElem?_cons_zero]; try rfl)
              case hq17 => exact fun _ _ _ h => h
              case hl17 => (simp only [List.setIfInBounds_toArray, List.set_cons_succ, List.set_cons_zero]; try rfl)
              case hw17 => rfl
              case hv17 =>
                intro W hW
                skip
                go_simp
                try with_reducible rfl
              case ha17 => (simp only [Act.put, List.setIfInBounds_toArray, List.set_cons_succ, List.set_cons_zero]; try rfl)
              refine wpAnyH_done (by kernel_rfl) ?_ _
              go_wp2_with fail
              refine bodyPost_ret (ret_tct rfl rfl rfl rfl HOZ.out.range Try.underlying28 rfl (infoVl _ _)) rfl (RChooseP.of (c := ⟨1, x.m.xt, x.a, 0⟩) (r := x.m.xp) ?_ ?_ HSZ.out)
              · unfold choF; rw [if_pos HPR.out, HFS.out]; show (match accF ls with | some m => _ | none => _) = _; rw [HFA.out]
              · exact ((((HA.out x (List.mem_of_getElem? HE_x.out)).on HBc.out).2.1).on HWd.out).updV HRd.out HUZ.out
end Go.Proofs.Ytbcmhnaiabifjaa
