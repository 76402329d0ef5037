import Derived.Test.YtbcmhnaiabifjaaG31
namespace Go.Proofs.Ytbcmhnaiabifjaa
set_option linter.unusedVariables false
open Go.RowKit
open Go.Lib (hid)
set_option maxHeartbeats 32000000 in
set_option maxRecDepth 100000 in
theorem rChooseD {v : Value} {ls : List Ms} {w : World} (n : Int) (h : SlM w v (mgs ls)) (hA : ∀ m ∈ ls, m.at w) (hS : ∀ m ∈ ls, m.short 1024) (hl : ls.length ≤ 40) (hpb : promB n ls = true) (hfS : ls.find? isS = none) (hfA : accF ls = none) {z : Ms} (hfD : decF n ls = some z) : Calls Try.prog 9 #[.int .i64 n, v] w (RChooseP w n ls) := by
  have HFS := hid hfS
  have HFA := hid hfA
  have HFD := hid hfD
  have HBW0 : Hid (0 < ls.length) := hid (prom_all hpb).2
  have HP4 := hid (prom_four hpb hfS)
  clear hfS hfA hfD
  have HSL0 := hid h
  have HSH := hid hS
  clear hS
  have HLL := hid hl
  have HPR := hid hpb
  obtain ⟨b, o, cap, a, rfl, ha, hc, hb⟩ := h
  have hlm : (mgs ls).length = ls.length := by unfold mgs; rw [List.length_map]
  rw [hlm] at ha hb ⊢
  have HA := hid hA
  have HCC := hid hc
  obtain ⟨m, hm⟩ : ∃ m, m = ls.length := ⟨_, rfl⟩
  rw [← hm] at ha hb hl ⊢
  have HN := hid hm
  clear hm hA hc hlm
  have HSL : Hid (SlM w (.slice a m cap) (mgs ls)) := hid (by have e : (mgs ls).length = m := (by unfold mgs; rw [List.length_map]; exact HN.out.symm); have hs := HSL0.out; rw [e] at hs; exact hs)
  clear HSL0
  have hm1 : m ≤ 40 := by omega
  have hm0 : 0 < m := by rw [HN.out]; exact HBW0.out
  have HBW := hid (hb hm0)
  obtain rfl := ha hm0
  have HCP : Hid (∀ W, Below w.heap.size w W → Calls Try.prog 24 #[.int .i64 n, .slice (some ⟨b, o, none⟩) m cap] W fun e w' => e = .returned (.bool true) ∧ Below W.heap.size W w') := hid (fun W hW => by have := rPromises n (HSL.out.on hW) (fun x hx => (HA.out x hx).on hW) HSH.out (by have := HLL.out; omega); rw [hpb] at this; exact this)
  have HCF : Hid (∀ W, Below w.heap.size w W → Calls Try.prog 11 #[.slice (some ⟨b, o, none⟩) m cap] W (FreshP W ls)) := hid (fun W hW => rFreshM (HSL.out.on hW) (fun x hx => (HA.out x hx).on hW) HSH.out HLL.out)
  have HB0 : Hid (Below w.heap.size w (w.alloc zeroVc)) := hid ((Below.refl _ w).alloc (Nat.le_refl _) _)
  have HR0 : Hid (RoomV (w.alloc zeroVc) w.heap.size) := hid (roomVZ w)
  clear hpb
  go_enter Try.func9, Try.ntmps9
  go_wp2_with (first | (go_at_call 24; refine (HCP.out _ HB0.out).mono ?_; rintro e w1 ⟨rfl, hB⟩; have HB1 : Hid (Below w.heap.size w w1) := hid (HB0.out.trans (hB.mono HB0.out.size)); have HR1 := hid (HR0.out.on hB); clear hB) | fail)
  go_loopw [10] (fun i wr => ∃ k : Nat, k ≤ m ∧ i = .int .i64 k ∧ Hid (∀ x ∈ ls.take k, isS x = false) ∧ Hid (Below w1.heap.size w1 wr)) (fun i _ => m - (RowKit.intOf i).toNat)
  case atStart => exact ⟨0, Nat.zero_le _, rfl, hid (by simp), hid (Below.refl _ _)⟩
  case round =>
    obtain ⟨k, hk, rfl, HN0, HBa⟩ := hrel
    have HB : Hid (Below w.heap.size w wr) := hid (HB1.out.trans (HBa.out.mono HB1.out.size))
    have HR : Hid (RoomV wr w.heap.size) := hid (HR1.out.on HBa.out)
    by_cases hlt : k < m
    · as_aux_lemma =>
        have hlti : ((k : Int) < m) := by omega
        obtain ⟨y, hy⟩ : ∃ y, ls[k]? = some y := ⟨ls[k]'(by rw [← HN.out]; exact hlt), List.getElem?_eq_getElem (by rw [← HN.out]; exact hlt)⟩
        have HR_y : Hid (∀ W, Below w.heap.size w W → W.rangeAt b (o + k * 20) y.m.list) := hid (fun W hW => (HCC.out.on hW fun _ => HBW.out) k y.m (at_mgs hy))
        have HE_y := hid hy
        clear hy
        obtain ⟨so, hso⟩ : ∃ z, z = y.m.so := ⟨_, rfl⟩
        have HSO := hid hso
        clear hso
        have c0 : wr.cell? ⟨b, o + k * 20, none⟩ = some (.int .i64 so) := by rw [HSO.out]; exact HR_y.out _ HB.out 0 _ rfl
        have h7 : ¬ so = 7 := by have := List.find?_eq_none.1 HFS.out y (List.mem_of_getElem? HE_y.out); unfold isS at this; rw [← HSO.out] at this; simpa using this
        have HP : Hid (isS y = false) := hid (by unfold isS; rw [← HSO.out]; exact decide_eq_false h7)
        have s7 : (so == 7) = false := by simp [h7]
        clear h7
        go_wp2_with fail
        go_roundw
        case rel => exact ⟨k + 1, by omega, by go_num, hid (no_next HE_y.out HN0.out HP.out), HBa⟩
        case measure => first | omega | (simp [RowKit.intOf]; omega)
    · as_aux_lemma =>
        have hlti : ¬ ((k : Int) < m) := by omega
        go_wp2_with fail
        go_loopw [8, 9, 11] (fun s8 s9 i wr => ∃ (k j : Nat), k ≤ m ∧ j < m ∧ i = .int .i64 k ∧ s8 = .int .i64 j ∧ s9 = .bool (flagB (ls.take k)) ∧ Hid (BestI ls k j) ∧ Hid (Below w1.heap.size w1 wr)) (fun _ _ i _ => m - (RowKit.intOf i).toNat)
        case atStart => exact ⟨0, 0, Nat.zero_le _, hm0, rfl, rfl, rfl, hid (.inl ⟨rfl, rfl⟩), HBa⟩
        case round =>
          obtain ⟨k, j, hk, hj, rfl, rfl, rfl, HBI, HBb⟩ := hrel
          have HBc : Hid (Below w.heap.size w wr) := hid (HB1.out.trans (HBb.out.mono HB1.out.size))
          have HRc : Hid (RoomV wr w.heap.size) := hid (HR1.out.on HBb.out)
          have hji : (j : Int) < m := by omega
          by_cases hlt : k < m
          · as_aux_lemma =>
              have hlti : ((k : Int) < m) := by omega
              obtain ⟨y, hy⟩ : ∃ y, ls[k]? = some y := ⟨ls[k]'(by rw [← HN.out]; exact hlt), List.getElem?_eq_getElem (by rw [← HN.out]; exact hlt)⟩
              have HR_y : Hid (∀ W, Below w.heap.size w W → W.rangeAt b (o + k * 20) y.m.list) := hid (fun W hW => (HCC.out.on hW fun _ => HBW.out) k y.m (at_mgs hy))
              have HE_y := hid hy
              clear hy
              obtain ⟨x, hx⟩ : ∃ y, ls[j]? = some y := ⟨ls[j]'(by rw [← HN.out]; exact hj), List.getElem?_eq_getElem (by rw [← HN.out]; exact hj)⟩
              have HR_x : Hid (∀ W, Below w.heap.size w W → W.rangeAt b (o + j * 20) x.m.list) := hid (fun W hW => (HCC.out.on hW fun _ => HBW.out) j x.m (at_mgs hx))
              have HE_x := hid hx
              clear hx
              obtain ⟨ya, hya⟩ : ∃ z, z = y.m.ab := ⟨_, rfl⟩
              have HYB := hid hya
              clear hya
              obtain ⟨xa, hxa⟩ : ∃ z, z = x.m.ab := ⟨_, rfl⟩
              have HXA := hid hxa
              clear hxa
              obtain ⟨fk, hfk⟩ : ∃ z, z = flagB (ls.take k) := ⟨_, rfl⟩
              rw [← hfk]
              have HFK := hid hfk
              clear hfk
              obtain ⟨yf, hyf⟩ : ∃ z, z = y.m.fl := ⟨_, rfl⟩
              have HYF := hid hyf
              clear hyf
              have HCa : Hid (∀ W, Below w.heap.size w W → W.cell? ⟨b, o + k * 20 + 15, none⟩ = some (.int .i64 ya) ∧ W.cell? ⟨b, o + k * 20 + 13, none⟩ = some (.bool yf)) := hid (fun W hW => by rw [HYB.out, HYF.out]; exact ⟨HR_y.out W hW 15 _ rfl, HR_y.out W hW 13 _ rfl⟩)
              have HCb : Hid (∀ W, Below w.heap.size w W → W.cell? ⟨b, o + j * 20 + 15, none⟩ = some (.int .i64 xa)) := hid (fun W hW => by rw [HXA.out]; exact HR_x.out W hW 15 _ rfl)
              obtain ⟨c0, c2⟩ := HCa.out _ HBc.out
              have c1 := HCb.out _ HBc.out
              have HST := hid (HBI.out.step HE_x.out HE_y.out (four_ab (HP4.out y (List.mem_of_getElem? HE_y.out))))
              by_cases hab : xa < ya
              · as_aux_lemma =>
                  have hab' : ya > xa := hab
                  have HIF : Hid ((if xa < ya then k else j) = k) := hid (if_pos hab)
                  go_wp2_with fail
                  go_quiet (fail)
                  obtain ⟨Wq, hWq⟩ : ∃ Wq, Wq = wr.drewN nq := ⟨_, rfl⟩
                  rw [← hWq]
                  have HWQ : Hid (Below w1.heap.size w1 Wq) := hid (by rw [hWq]; exact Below.drewN' HBb.out _)
                  clear hWq c0 c1 c2
                  obtain ⟨c0, c2⟩ := HCa.out _ (HB1.out.trans (HWQ.out.mono HB1.out.size))
                  rcases fk with _ | _
                  · as_aux_lemma =>
                      rcases yf with _ | _
                      · as_aux_lemma =>
                          go_wp2_with fail
                          go_roundw
                          case rel => exact ⟨k + 1, k, by omega, by omega, by go_num, rfl, by rw [flag_next HE_y.out, ← HFK.out, ← HYF.out]; rfl, hid (by have := HST.out; rw [← HXA.out, ← HYB.out, HIF.out] at this; exact this), HWQ⟩
                          case measure => first | omega | (simp [RowKit.intOf]; omega)
                      · as_aux_lemma =>
                          go_wp2_with fail
                          go_roundw
                          case rel => exact ⟨k + 1, k, by omega, by omega, by go_num, rfl, by rw [flag_next HE_y.out, ← HFK.out, ← HYF.out]; rfl, hid (by have := HST.out; rw [← HXA.out, ← HYB.out, HIF.out] at this; exact this), HWQ⟩
                          case measure => first | omega | (simp [RowKit.intOf]; omega)
                  · as_aux_lemma =>
                      go_wp2_with fail
                      go_roundw
                      case rel => exact ⟨k + 1, k, by omega, by omega, by go_num, rfl, by rw [flag_next HE_y.out, ← HFK.out, ← HYF.out]; rfl, hid (by have := HST.out; rw [← HXA.out, ← HYB.out, HIF.out] at this; exact this), HWQ⟩
                      case measure => first | omega | (simp [RowKit.intOf]; omega)
              · as_aux_lemma =>
                  have hab' : ¬ ya > xa := hab
                  have HIF : Hid ((if xa < ya then k else j) = j) := hid (if_neg hab)
                  go_wp2_with fail
                  go_quiet (fail)
                  obtain ⟨Wq, hWq⟩ : ∃ Wq, Wq = wr.drewN nq := ⟨_, rfl⟩
                  rw [← hWq]
                  have HWQ : Hid (Below w1.heap.size w1 Wq) := hid (by rw [hWq]; exact Below.drewN' HBb.out _)
                  clear hWq c0 c1 c2
                  obtain ⟨c0, c2⟩ := HCa.out _ (HB1.out.trans (HWQ.out.mono HB1.out.size))
                  rcases fk with _ | _
                  · as_aux_lemma =>
                      rcases yf with _ | _
                      · as_aux_lemma =>
                          go_wp2_with fail
                          go_roundw
                          case rel => exact ⟨k + 1, j, by omega, by omega, by go_num, rfl, by rw [flag_next HE_y.out, ← HFK.out, ← HYF.out]; rfl, hid (by have := HST.out; rw [← HXA.out, ← HYB.out, HIF.out] at this; exact this), HWQ⟩
                          case measure => first | omega | (simp [RowKit.intOf]; omega)
                      · as_aux_lemma =>
                          go_wp2_with fail
                          go_roundw
                          case rel => exact ⟨k + 1, j, by omega, by omega, by go_num, rfl, by rw [flag_next HE_y.out, ← HFK.out, ← HYF.out]; rfl, hid (by have := HST.out; rw [← HXA.out, ← HYB.out, HIF.out] at this; exact this), HWQ⟩
                          case measure => first | omega | (simp [RowKit.intOf]; omega)
                  · as_aux_lemma =>
                      go_wp2_with fail
                      go_roundw
                      case rel => exact ⟨k + 1, j, by omega, by omega, by go_num, rfl, by rw [flag_next HE_y.out, ← HFK.out, ← HYF.out]; rfl, hid (by have := HST.out; rw [← HXA.out, ← HYB.out, HIF.out] at this; exact this), HWQ⟩
                      case measure => first | omega | (simp [RowKit.intOf]; omega)
          · as_aux_lemma =>
              have hlti : ¬ ((k : Int) < m) := by omega
              have HKM : Hid (k = m) := hid (by omega)
              obtain ⟨x, hx⟩ : ∃ y, ls[j]? = some y := ⟨ls[j]'(by rw [← HN.out]; exact hj), List.getElem?_eq_getElem (by rw [← HN.out]; exact hj)⟩
              have HR_x : Hid (∀ W, Below w.heap.size w W → W.rangeAt b (o + j * 20) x.m.list) := hid (fun W hW => (HCC.out.on hW fun _ => HBW.out) j x.m (at_mgs hx))
              have HE_x := hid hx
              clear hx
              obtain ⟨xa, hxa⟩ : ∃ z, z = x.m.ab := ⟨_, rfl⟩
              have HXA := hid hxa
              clear hxa
              have c1 : wr.cell? ⟨b, o + j * 20 + 15, none⟩ = some (.int .i64 xa) := by rw [HXA.out]; exact HR_x.out _ HBc.out 15 _ rfl
              have HEND := hid (BestI.end (ls := ls) (j := j) (by have := HBI.out; rwa [HKM.out, HN.out] at this) HBW0.out HE_x.out)
              have hxa : ¬ xa > 0 := by rcases HEND.out with ⟨_, h⟩ | ⟨h, _⟩; rw [HXA.out]; omega; exact absurd (h.symm.trans HFA.out) (by simp)
              obtain ⟨fl, hfl⟩ : ∃ z, z = flagB (ls.take k) := ⟨_, rfl⟩
              rw [← hfl]
              have HFL : Hid (fl = flagB ls) := hid (by rw [hfl, HKM.out, HN.out, List.take_length])
              clear hfl
              have HBd := hid HBb.out
              obtain rfl : fl = false := by rcases fl with _ | _; rfl; have e := HFD.out; unfold decF at e; rw [if_pos HFL.out.symm] at e; cases e
              go_wp2_with fail
              go_loopw [12] (fun i wr => ∃ k : Nat, k ≤ m ∧ i = .int .i64 k ∧ Hid (∀ x ∈ ls.take k, hasV n ls x = false) ∧ Hid (Below w1.heap.size w1 wr)) (fun i _ => m - (RowKit.intOf i).toNat)
              case atStart => exact ⟨0, Nat.zero_le _, rfl, hid (by simp), HBd⟩
              case round =>
                obtain ⟨k, hk, rfl, HN3, HBe⟩ := hrel
                have HBf : Hid (Below w.heap.size w wr) := hid (HB1.out.trans (HBe.out.mono HB1.out.size))
                have HRf : Hid (RoomV wr w.heap.size) := hid (HR1.out.on HBe.out)
                by_cases hlt : k < m
                · as_aux_lemma =>
                    have hlti : ((k : Int) < m) := by omega
                    obtain ⟨y, hy⟩ : ∃ y, ls[k]? = some y := ⟨ls[k]'(by rw [← HN.out]; exact hlt), List.getElem?_eq_getElem (by rw [← HN.out]; exact hlt)⟩
                    have HR_y : Hid (∀ W, Below w.heap.size w W → W.rangeAt b (o + k * 20) y.m.list) := hid (fun W hW => (HCC.out.on hW fun _ => HBW.out) k y.m (at_mgs hy))
                    have HE_y := hid hy
                    clear hy
                    have HYA := hid ((HA.out y (List.mem_of_getElem? HE_y.out)).on HBf.out)
                    obtain ⟨nd, hnd⟩ : ∃ z, z = neI n (m : Int) := ⟨_, rfl⟩
                    have hNE := fun W => rNeed_any n (m : Int) W
                    rw [← hnd] at hNE
                    obtain ⟨vn, hvn⟩ : ∃ z, z = votesF ls y := ⟨_, rfl⟩
                    have hv1 : vn ≤ 1000 := by have : votesF ls y ≤ ls.length := List.countP_le_length; have := HN.out; omega
                    have HHV : Hid (hasV n ls y = (!decide (y.m.ft = 0) && decide (nd ≤ (vn : Int)))) := hid (by unfold hasV; rw [four_ft (HP4.out y (List.mem_of_getElem? HE_y.out)), hnd, hvn, HN.out])
                    have HHM : Hid (∀ W, Below w.heap.size w W → Calls Try.prog 25 #[.slice (some ⟨b, o, none⟩) m cap, .agg #[.int .i64 y.m.ft, .slice y.m.fp.a y.m.fp.n y.m.fp.c]] W fun e w' => e = .returned (.int .i64 (vn : Int)) ∧ Below W.heap.size W w') := hid (fun W hW => by rw [hvn]; exact rVotes (HSL.out.on hW) (fun x hx => (HA.out x hx).on hW) HSH.out (by have := HLL.out; omega) ((HA.out y (List.mem_of_getElem? HE_y.out)).on hW) (HSH.out y (List.mem_of_getElem? HE_y.out)))
                    clear hnd hvn
                    have c0 : wr.cell? ⟨b, o + k * 20 + 18, none⟩ = some (.int .i64 y.m.ft) := HR_y.out _ HBf.out 18 _ rfl
                    have c1 : wr.cell? ⟨b, o + k * 20 + 19, none⟩ = some (.slice y.m.fp.a y.m.fp.n y.m.fp.c) := HR_y.out _ HBf.out 19 _ rfl
                    by_cases ht0 : y.m.ft = 0
                    · as_aux_lemma =>
                        have HPV : Hid (hasV n ls y = false) := hid (by rw [HHV.out]; simp [ht0])
                        have hb0 : (y.m.ft != 0) = false := by simp [ht0]
                        clear ht0
                        go_wp2_with (first
                          | (go_at_call 25; refine (HHM.out _ HBf.out).mono ?_; rintro e w3 ⟨rfl, hB⟩; have HB3 := hid hB; clear hB)
                          | (go_at_call 26; refine (hNE _).mono ?_; rintro e w' ⟨rfl, rfl⟩)
                          | fail)
                        go_roundw
                        case rel => exact ⟨k + 1, by omega, by go_num, hid (no_next HE_y.out HN3.out HPV.out), HBe⟩
                        case measure => first | omega | (simp [RowKit.intOf]; omega)
                    · as_aux_lemma =>
                        have hb0 : (y.m.ft != 0) = true := by simpa using ht0
                        by_cases hge : nd ≤ (vn : Int)
                        · as_aux_lemma =>
                            have HPV : Hid (hasV n ls y = true) := hid (by rw [HHV.out]; simp [ht0, hge])
                            have hg : (vn : Int) ≥ nd := hge
                            clear ht0 hge
                            obtain rfl : y = z := by have e := HFD.out; unfold decF at e; rw [if_neg (by rw [← HFL.out]; decide), find_hit HE_y.out HN3.out HPV.out] at e; exact Option.some.inj e
                            go_wp2_with (first
                              | (go_at_call 25; refine (HHM.out _ HBf.out).mono ?_; rintro e w3 ⟨rfl, hB⟩; have HB3 := hid hB; clear hB)
                              | (go_at_call 26; refine (hNE _).mono ?_; rintro e w' ⟨rfl, rfl⟩)
                              | fail)
                            have HBg : Hid (Below w.heap.size w w3) := hid (HBf.out.trans (HB3.out.mono HBf.out.size))
                            have HRg := hid (HRf.out.on HB3.out)
                            refine rh_start (S := fun W => Below w.heap.size w W) (n := 8) (listed := #[false, false, false, false, false, false, false, false]) (by kernel_rfl) rfl rfl ?_
                            have HS0 : Hid (Below w.heap.size w w3.drew) := hid (HBg.out.trans ((belowDrew (Below.refl _ _)).mono HBg.out.size))
                            have HRd : Hid (RoomV w3.drew w.heap.size) := hid (HRg.out)
                            have HWd : Hid (Below w3.heap.size w3 w3.drew) := hid (belowDrew (Below.refl _ _))
                            generalize w3.drew = wd at HS0 HRd HWd ⊢
                            refine rh_takeS (i := 0) (o := ?o18) (v := ?v18) (listed' := ?l18) (a' := ?a18) ?hi18 (by kernel_rfl) (by kernel_rfl) (by kernel_rfl) ?hq18 ?hl18 ?hw18 ?hv18 ?ha18 HS0.out ?hh18
                            case hi18 => (simp only [List.getElem?_toArray, List.getElem?_cons_zero]; try rfl)
                            case hq18 => exact fun _ _ _ h => h
                            case hl18 => (simp only [List.setIfInBounds_toArray, List.set_cons_zero]; try rfl)
                            case hw18 => rfl
                            case hv18 =>
                              intro W hW
                              skip
                              go_simp
                              try with_reducible rfl
                            case ha18 => (simp only [Act.put, List.setIfInBounds_toArray, List.set_cons_succ, List.set_cons_zero]; try rfl)
                            refine rh_takeS (i := 1) (o := ?o19) (v := ?v19) (listed' := ?l19) (a' := ?a19) ?hi19 (by kernel_rfl) (by kernel_rfl) (by kernel_rfl) ?hq19 ?hl19 ?hw19 ?hv19 ?ha19 HS0.out ?hh19
                            case hi19 => (simp only [List.getElem?_toArray, List.getElem?_cons_succ, List.getElem?_cons_zero]; try rfl)
                            case hq19 => exact fun _ _ _ h => h
                            case hl19 => (simp only [List.setIfInBounds_toArray, List.set_cons_succ, List.set_cons_zero]; try rfl)
                            case hw19 => rfl
                            case hv19 =>
                              intro W hW
                              skip
                              go_simp
                              try with_reducible rfl
                            case ha19 => (simp only [Act.put, List.setIfInBounds_toArray, List.set_cons_succ, List.set_cons_zero]; try rfl)
                            refine rh_takeS (i := 2) (o := ?o20) (v := ?v20) (listed' := ?l20) (a' := ?a20) ?hi20 (by kernel_rfl) (by kernel_rfl) (by kernel_rfl) ?hq20 ?hl20 ?hw20 ?hv20 ?ha20 HS0.out ?hh20
                            case hi20 => (simp only [List.getElem?_toArray, List.getElem?_cons_succ, List.getElem?_cons_zero]; try rfl)
                            case hq20 => exact fun _ _ _ h => h
                            case hl20 => (simp only [List.setIfInBounds_toArray, List.set_cons_succ, List.set_cons_zero]; try rfl)
                            case hw20 => rfl
                            case hv20 =>
                              intro W hW
                              skip
                              go_simp
                              try with_reducible rfl
                            case ha20 => (simp only [Act.put, List.setIfInBounds_toArray, List.set_cons_succ, List.set_cons_zero]; try rfl)
                            refine rh_takeS (i := 3) (o := ?o21) (v := ?v21) (listed' := ?l21) (a' := ?a21) ?hi21 (by kernel_rfl) (by kernel_rfl) (by kernel_rfl) ?hq21 ?hl21 ?hw21 ?hv21 ?ha21 HS0.out ?hh21
                            case hi21 => (simp only [List.getElem?_toArray, List.getElem?_cons_succ, List.getElem?_cons_zero]; try rfl)
                            case hq21 => exact fun _ _ _ h => h
                            case hl21 => (simp only [List.setIfInBounds_toArray, List.set_cons_succ, List.set_cons_zero]; try rfl)
                            case hw21 => rfl
                            case hv21 =>
                              intro W hW
                              skip
                              go_simp
                              try with_reducible rfl
                            case ha21 => (simp only [Act.put, List.setIfInBounds_toArray, List.set_cons_succ, List.set_cons_zero]; try rfl)
                            refine rh_load (i := 4) (o := ?o22) (cs := vcs y.m.ft y.m.fp) (T := 28) (x := ?x22) (b := ?b22) (q := ?q22) (listed' := ?l22) (a' := ?a22) ?hi22 (by kernel_rfl) (by kernel_rfl) (by kernel_rfl) ?hq22 ?hl22 ?hg22 ?ho22 ?hx22 ?hc22 Try.underlying28 rfl (infoVl y.m.ft y.m.fp) ?ha22 HS0.out ?hh22
                            case hi22 => (simp only [List.getElem?_toArray, List.getElem?_cons_succ, List.getElem?_cons_zero]; try rfl)
                            case hq22 => exact fun _ _ _ h => h
                            case hl22 => (simp only [List.setIfInBounds_toArray, List.set_cons_succ, List.set_cons_zero]; try rfl)
                            case hg22 => rfl
                            case ho22 => rfl
                            case hx22 => rfl
                            case hc22 => exact fun W hW => rngF (HR_y.out W hW)
                            case ha22 => (show Act.put _ _ (Value.agg (varr y.m.ft y.m.fp)) = _); (simp only [Act.put, List.setIfInBounds_toArray, List.set_cons_succ, List.set_cons_zero]; try rfl)
                            refine rh_takeS (i := 5) (o := ?o23) (v := ?v23) (listed' := ?l23) (a' := ?a23) ?hi23 (by kernel_rfl) (by kernel_rfl) (by kernel_rfl) ?hq23 ?hl23 ?hw23 ?hv23 ?ha23 HS0.out ?hh23
                            case hi23 => (simp only [List.getElem?_toArray, List.getElem?_cons_succ, List.getElem?_cons_zero]; try rfl)
                            case hq23 => exact fun _ _ _ h => h
                            case hl23 => (simp only [List.setIfInBounds_toArray, List.set_cons_succ, List.set_cons_zero]; try rfl)
                            case hw23 => rfl
                            case hv23 =>
                              intro W hW
                              skip
                              go_simp
                              try with_reducible rfl
                            case ha23 => (simp only [Act.put, List.setIfInBounds_toArray, List.set_cons_succ, List.set_cons_zero]; try rfl)
                            obtain ⟨C, hC1, hC2⟩ := HRd.out
                            have HRC := hid (And.intro hC1 hC2)
                            clear hC1 hC2
                            refine wpAnyH_ready (rs := [6]) (by kernel_rfl) (by simp) ?_
                            refine rh_storeN (i := 6) (o := ?o24) (listed' := ?l24) (x := ?x24) (y := ?y24) (b := w.heap.size) (T := 28) (varr y.m.ft y.m.fp) (infoVl' y.m.ft y.m.fp) (varr_one y.m.ft y.m.fp) ?hi24 ?hl24 ?hg24 ?ho24 ?hx24 ?hy24 ?hd24 HRC.out.1 HRC.out.2 ?hh24 ?hs24
                            case hi24 => (simp only [List.getElem?_toArray, List.getElem?_cons_succ, List.getElem?_cons_zero]; try rfl)
                            case hl24 => (simp only [List.setIfInBounds_toArray, List.set_cons_succ, List.set_cons_zero]; try rfl)
                            case hg24 => rfl
                            case ho24 => rfl
                            case hx24 => rfl
                            case hy24 => rfl
                            case hd24 => rfl
                            case hs24 => exact AllReadyH.nil
                            intro WZ hO hU
                            have HOZ : Hid (OV WZ w.heap.size y.m.ft y.m.fp) := hid hO
                            have HBZ : Hid (Below w.heap.size wd WZ) := hid (hU.below _ (Nat.le_refl _))
                            have HUZ := hid hU
                            clear hO hU
                            have HSZ : Hid (Below w.heap.size w WZ) := hid (HS0.out.trans HBZ.out)
                            refine ⟨HSZ.out, ?_⟩
                            refine rh_takeS (i := 7) (o := ?o25) (v := ?v25) (listed' := ?l25) (a' := ?a25) ?hi25 (by kernel_rfl) (by kernel_rfl) (by kernel_rfl) ?hq25 ?hl25 ?hw25 ?hv25 ?ha25 HSZ.out ?hh25
                            case hi25 => (simp only [List.getElem?_toArray, List.getElem?_cons_succ, List.getElem?_cons_zero]; try rfl)
                            case hq25 => exact fun _ _ _ h => h
                            case hl25 => (simp only [List.setIfInBounds_toArray, List.set_cons_succ, List.set_cons_zero]; try rfl)
                            case hw25 => rfl
                            case hv25 =>
                              intro W hW
                              skip
                              go_simp
                              try with_reducible rfl
                            case ha25 => (simp only [Act.put, List.setIfInBounds_toArray, List.set_cons_succ, List.set_cons_zero]; try rfl)
                            refine wpAnyH_done (by kernel_rfl) ?_ _
                            go_wp2_with fail
                            refine bodyPost_ret (ret_tct rfl rfl rfl rfl HOZ.out.range Try.underlying28 rfl (infoVl _ _)) rfl (RChooseP.of (c := ⟨2, y.m.ft, y.f, 0⟩) (r := y.m.fp) ?_ ?_ HSZ.out)
                            · unfold choF; rw [if_pos HPR.out, HFS.out]; show (match accF ls with | some m => _ | none => _) = _; rw [HFA.out]; show (match decF n ls with | some m => _ | none => _) = _; rw [HFD.out]
                            · exact (((HA.out y (List.mem_of_getElem? HE_y.out)).2.2.on HBg.out).on HWd.out).updV HRd.out HUZ.out
                        · as_aux_lemma =>
                            have HPV : Hid (hasV n ls y = false) := hid (by rw [HHV.out]; simp [hge])
                            have hg : ¬ (vn : Int) ≥ nd := hge
                            clear hge ht0
                            go_wp2_with (first
                              | (go_at_call 25; refine (HHM.out _ HBf.out).mono ?_; rintro e w3 ⟨rfl, hB⟩; have HB3 := hid hB; clear hB)
                              | (go_at_call 26; refine (hNE _).mono ?_; rintro e w' ⟨rfl, rfl⟩)
                              | fail)
                            go_roundw
                            case rel => exact ⟨k + 1, by omega, by go_num, hid (no_next HE_y.out HN3.out HPV.out), hid (HBe.out.trans (HB3.out.mono (Nat.le_trans HBe.out.size (Nat.le_refl _))))⟩
                            case measure => first | omega | (simp [RowKit.intOf]; omega)
                · as_aux_lemma =>
                    exfalso
                    have hkm : k = m := by omega
                    have e := HFD.out
                    unfold decF at e
                    rw [if_neg (by rw [← HFL.out]; decide), find_miss (fun x hx => HN3.out x (by rw [hkm, HN.out, List.take_length]; exact hx))] at e
                    cases e
end Go.Proofs.Ytbcmhnaiabifjaa
