import Derived.Test.YtbcmhnaiabifjaaG31
namespace Go.Proofs.Ytbcmhnaiabifjaa
set_option linter.unusedVariables false
open Go.RowKit
open Go.Lib (hid)
set_option maxHeartbeats 32000000 in
set_option maxRecDepth 100000 in
theorem rChooseE {v : Value} {ls : List Ms} {w : World} (n : Int) (h : SlM w v (mgs ls)) (hA : ∀ m ∈ ls, m.at w) (hS : ∀ m ∈ ls, m.short 1024) (hl : ls.length ≤ 40) (hpb : promB n ls = true) (hfS : ls.find? isS = none) (hfA : accF ls = none) (hfD : decF n ls = none) (hfe : freshE ls ≠ 0) : Calls Try.prog 9 #[.int .i64 n, v] w (RChooseP w n ls) := by
  have HFS := hid hfS
  have HFA := hid hfA
  have HFD := hid hfD
  have HBW0 : Hid (0 < ls.length) := hid (prom_all hpb).2
  have HP4 := hid (prom_four hpb hfS)
  clear hfS hfA hfD
  obtain ⟨fe, he⟩ : ∃ z, z = freshE ls := ⟨_, rfl⟩
  obtain ⟨ft, ht⟩ : ∃ z, z = freshT ls := ⟨_, rfl⟩
  rw [← he] at hfe
  have HFE := hid he
  have HFT := hid ht
  have HFZ := hid hfe
  have hzb : (fe != 0) = true := by simpa using hfe
  clear hfe he ht
  have HSL0 := hid h
  have HSH := hid hS
  clear hS
  have HLL := hid hl
  have HPR := hid hpb
  obtain ⟨b, o, cap, a, rfl, ha, hc, hb⟩ := h
  have hlm : (mgs ls).length = ls.length := by unfold mgs; rw [List.length_map]
  rw [hlm] at ha hb ⊢
  have HA := hid hA
  have HCC := hid hc
  obtain ⟨m, hm⟩ : ∃ m, m = ls.length := ⟨_, rfl⟩
  rw [← hm] at ha hb hl ⊢
  have HN := hid hm
  clear hm hA hc hlm
  have HSL : Hid (SlM w (.slice a m cap) (mgs ls)) := hid (by have e : (mgs ls).length = m := (by unfold mgs; rw [List.length_map]; exact HN.out.symm); have hs := HSL0.out; rw [e] at hs; exact hs)
  clear HSL0
  have hm1 : m ≤ 40 := by omega
  have hm0 : 0 < m := by rw [HN.out]; exact HBW0.out
  have HBW := hid (hb hm0)
  obtain rfl := ha hm0
  have HCP : Hid (∀ W, Below w.heap.size w W → Calls Try.prog 24 #[.int .i64 n, .slice (some ⟨b, o, none⟩) m cap] W fun e w' => e = .returned (.bool true) ∧ Below W.heap.size W w') := hid (fun W hW => by have := rPromises n (HSL.out.on hW) (fun x hx => (HA.out x hx).on hW) HSH.out (by have := HLL.out; omega); rw [hpb] at this; exact this)
  have HCF : Hid (∀ W, Below w.heap.size w W → Calls Try.prog 11 #[.slice (some ⟨b, o, none⟩) m cap] W (FreshP W ls)) := hid (fun W hW => rFreshM (HSL.out.on hW) (fun x hx => (HA.out x hx).on hW) HSH.out HLL.out)
  have HB0 : Hid (Below w.heap.size w (w.alloc zeroVc)) := hid ((Below.refl _ w).alloc (Nat.le_refl _) _)
  have HR0 : Hid (RoomV (w.alloc zeroVc) w.heap.size) := hid (roomVZ w)
  clear hpb
  go_enter Try.func9, Try.ntmps9
  go_wp2_with (first | (go_at_call 24; refine (HCP.out _ HB0.out).mono ?_; rintro e w1 ⟨rfl, hB⟩; have HB1 : Hid (Below w.heap.size w w1) := hid (HB0.out.trans (hB.mono HB0.out.size)); have HR1 := hid (HR0.out.on hB); clear hB) | fail)
  go_loopw [10] (fun i wr => ∃ k : Nat, k ≤ m ∧ i = .int .i64 k ∧ Hid (∀ x ∈ ls.take k, isS x = false) ∧ Hid (Below w1.heap.size w1 wr)) (fun i _ => m - (RowKit.intOf i).toNat)
  case atStart => exact ⟨0, Nat.zero_le _, rfl, hid (by simp), hid (Below.refl _ _)⟩
  case round =>
    obtain ⟨k, hk, rfl, HN0, HBa⟩ := hrel
    have HB : Hid (Below w.heap.size w wr) := hid (HB1.out.trans (HBa.out.mono HB1.out.size))
    have HR : Hid (RoomV wr w.heap.size) := hid (HR1.out.on HBa.out)
    by_cases hlt : k < m
    · as_aux_lemma =>
        have hlti : ((k : Int) < m) := by omega
        obtain ⟨y, hy⟩ : ∃ y, ls[k]? = some y := ⟨ls[k]'(by rw [← HN.out]; exact hlt), List.getElem?_eq_getElem (by rw [← HN.out]; exact hlt)⟩
        have HR_y : Hid (∀ W, Below w.heap.size w W → W.rangeAt b (o + k * 20) y.m.list) := hid (fun W hW => (HCC.out.on hW fun _ => HBW.out) k y.m (at_mgs hy))
        have HE_y := hid hy
        clear hy
        obtain ⟨so, hso⟩ : ∃ z, z = y.m.so := ⟨_, rfl⟩
        have HSO := hid hso
        clear hso
        have c0 : wr.cell? ⟨b, o + k * 20, none⟩ = some (.int .i64 so) := by rw [HSO.out]; exact HR_y.out _ HB.out 0 _ rfl
        have h7 : ¬ so = 7 := by have := List.find?_eq_none.1 HFS.out y (List.mem_of_getElem? HE_y.out); unfold isS at this; rw [← HSO.out] at this; simpa using this
        have HP : Hid (isS y = false) := hid (by unfold isS; rw [← HSO.out]; exact decide_eq_false h7)
        have s7 : (so == 7) = false := by simp [h7]
        clear h7
        go_wp2_with fail
        go_roundw
        case rel => exact ⟨k + 1, by omega, by go_num, hid (no_next HE_y.out HN0.out HP.out), HBa⟩
        case measure => first | omega | (simp [RowKit.intOf]; omega)
    · as_aux_lemma =>
        have hlti : ¬ ((k : Int) < m) := by omega
        go_wp2_with fail
        go_loopw [8, 9, 11] (fun s8 s9 i wr => ∃ (k j : Nat), k ≤ m ∧ j < m ∧ i = .int .i64 k ∧ s8 = .int .i64 j ∧ s9 = .bool (flagB (ls.take k)) ∧ Hid (BestI ls k j) ∧ Hid (Below w1.heap.size w1 wr)) (fun _ _ i _ => m - (RowKit.intOf i).toNat)
        case atStart => exact ⟨0, 0, Nat.zero_le _, hm0, rfl, rfl, rfl, hid (.inl ⟨rfl, rfl⟩), HBa⟩
        case round =>
          obtain ⟨k, j, hk, hj, rfl, rfl, rfl, HBI, HBb⟩ := hrel
          have HBc : Hid (Below w.heap.size w wr) := hid (HB1.out.trans (HBb.out.mono HB1.out.size))
          have HRc : Hid (RoomV wr w.heap.size) := hid (HR1.out.on HBb.out)
          have hji : (j : Int) < m := by omega
          by_cases hlt : k < m
          · as_aux_lemma =>
              have hlti : ((k : Int) < m) := by omega
              obtain ⟨y, hy⟩ : ∃ y, ls[k]? = some y := ⟨ls[k]'(by rw [← HN.out]; exact hlt), List.getElem?_eq_getElem (by rw [← HN.out]; exact hlt)⟩
              have HR_y : Hid (∀ W, Below w.heap.size w W → W.rangeAt b (o + k * 20) y.m.list) := hid (fun W hW => (HCC.out.on hW fun _ => HBW.out) k y.m (at_mgs hy))
              have HE_y := hid hy
              clear hy
              obtain ⟨x, hx⟩ : ∃ y, ls[j]? = some y := ⟨ls[j]'(by rw [← HN.out]; exact hj), List.getElem?_eq_getElem (by rw [← HN.out]; exact hj)⟩
              have HR_x : Hid (∀ W, Below w.heap.size w W → W.rangeAt b (o + j * 20) x.m.list) := hid (fun W hW => (HCC.out.on hW fun _ => HBW.out) j x.m (at_mgs hx))
              have HE_x := hid hx
              clear hx
              obtain ⟨ya, hya⟩ : ∃ z, z = y.m.ab := ⟨_, rfl⟩
              have HYB := hid hya
              clear hya
              obtain ⟨xa, hxa⟩ : ∃ z, z = x.m.ab := ⟨_, rfl⟩
              have HXA := hid hxa
              clear hxa
              obtain ⟨fk, hfk⟩ : ∃ z, z = flagB (ls.take k) := ⟨_, rfl⟩
              rw [← hfk]
              have HFK := hid hfk
              clear hfk
              obtain ⟨yf, hyf⟩ : ∃ z, z = y.m.fl := ⟨_, rfl⟩
              have HYF := hid hyf
              clear hyf
              have HCa : Hid (∀ W, Below w.heap.size w W → W.cell? ⟨b, o + k * 20 + 15, none⟩ = some (.int .i64 ya) ∧ W.cell? ⟨b, o + k * 20 + 13, none⟩ = some (.bool yf)) := hid (fun W hW => by rw [HYB.out, HYF.out]; exact ⟨HR_y.out W hW 15 _ rfl, HR_y.out W hW 13 _ rfl⟩)
              have HCb : Hid (∀ W, Below w.heap.size w W → W.cell? ⟨b, o + j * 20 + 15, none⟩ = some (.int .i64 xa)) := hid (fun W hW => by rw [HXA.out]; exact HR_x.out W hW 15 _ rfl)
              obtain ⟨c0, c2⟩ := HCa.out _ HBc.out
              have c1 := HCb.out _ HBc.out
              have HST := hid (HBI.out.step HE_x.out HE_y.out (four_ab (HP4.out y (List.mem_of_getElem? HE_y.out))))
              by_cases hab : xa < ya
              · as_aux_lemma =>
                  have hab' : ya > xa := hab
                  have HIF : Hid ((if xa < ya then k else j) = k) := hid (if_pos hab)
                  go_wp2_with fail
                  go_quiet (fail)
                  obtain ⟨Wq, hWq⟩ : ∃ Wq, Wq = wr.drewN nq := ⟨_, rfl⟩
                  rw [← hWq]
                  have HWQ : Hid (Below w1.heap.size w1 Wq) := hid (by rw [hWq]; exact Below.drewN' HBb.out _)
                  clear hWq c0 c1 c2
                  obtain ⟨c0, c2⟩ := HCa.out _ (HB1.out.trans (HWQ.out.mono HB1.out.size))
                  rcases fk with _ | _
                  · as_aux_lemma =>
                      rcases yf with _ | _
                      · as_aux_lemma =>
                          go_wp2_with fail
                          go_roundw
                          case rel => exact ⟨k + 1, k, by omega, by omega, by go_num, rfl, by rw [flag_next HE_y.out, ← HFK.out, ← HYF.out]; rfl, hid (by have := HST.out; rw [← HXA.out, ← HYB.out, HIF.out] at this; exact this), HWQ⟩
                          case measure => first | omega | (simp [RowKit.intOf]; omega)
                      · as_aux_lemma =>
                          go_wp2_with fail
                          go_roundw
                          case rel => exact ⟨k + 1, k, by omega, by omega, by go_num, rfl, by rw [flag_next HE_y.out, ← HFK.out, ← HYF.out]; rfl, hid (by have := HST.out; rw [← HXA.out, ← HYB.out, HIF.out] at this; exact this), HWQ⟩
                          case measure => first | omega | (simp [RowKit.intOf]; omega)
                  · as_aux_lemma =>
                      go_wp2_with fail
                      go_roundw
                      case rel => exact ⟨k + 1, k, by omega, by omega, by go_num, rfl, by rw [flag_next HE_y.out, ← HFK.out, ← HYF.out]; rfl, hid (by have := HST.out; rw [← HXA.out, ← HYB.out, HIF.out] at this; exact this), HWQ⟩
                      case measure => first | omega | (simp [RowKit.intOf]; omega)
              · as_aux_lemma =>
                  have hab' : ¬ ya > xa := hab
                  have HIF : Hid ((if xa < ya then k else j) = j) := hid (if_neg hab)
                  go_wp2_with fail
                  go_quiet (fail)
                  obtain ⟨Wq, hWq⟩ : ∃ Wq, Wq = wr.drewN nq := ⟨_, rfl⟩
                  rw [← hWq]
                  have HWQ : Hid (Below w1.heap.size w1 Wq) := hid (by rw [hWq]; exact Below.drewN' HBb.out _)
                  clear hWq c0 c1 c2
                  obtain ⟨c0, c2⟩ := HCa.out _ (HB1.out.trans (HWQ.out.mono HB1.out.size))
                  rcases fk with _ | _
                  · as_aux_lemma =>
                      rcases yf with _ | _
                      · as_aux_lemma =>
                          go_wp2_with fail
                          go_roundw
                          case rel => exact ⟨k + 1, j, by omega, by omega, by go_num, rfl, by rw [flag_next HE_y.out, ← HFK.out, ← HYF.out]; rfl, hid (by have := HST.out; rw [← HXA.out, ← HYB.out, HIF.out] at this; exact this), HWQ⟩
                          case measure => first | omega | (simp [RowKit.intOf]; omega)
                      · as_aux_lemma =>
                          go_wp2_with fail
                          go_roundw
                          case rel => exact ⟨k + 1, j, by omega, by omega, by go_num, rfl, by rw [flag_next HE_y.out, ← HFK.out, ← HYF.out]; rfl, hid (by have := HST.out; rw [← HXA.out, ← HYB.out, HIF.out] at this; exact this), HWQ⟩
                          case measure => first | omega | (simp [RowKit.intOf]; omega)
                  · as_aux_lemma =>
                      go_wp2_with fail
                      go_roundw
                      case rel => exact ⟨k + 1, j, by omega, by omega, by go_num, rfl, by rw [flag_next HE_y.out, ← HFK.out, ← HYF.out]; rfl, hid (by have := HST.out; rw [← HXA.out, ← HYB.out, HIF.out] at this; exact this), HWQ⟩
                      case measure => first | omega | (simp [RowKit.intOf]; omega)
          · as_aux_lemma =>
              have hlti : ¬ ((k : Int) < m) := by omega
              have HKM : Hid (k = m) := hid (by omega)
              obtain ⟨x, hx⟩ : ∃ y, ls[j]? = some y := ⟨ls[j]'(by rw [← HN.out]; exact hj), List.getElem?_eq_getElem (by rw [← HN.out]; exact hj)⟩
              have HR_x : Hid (∀ W, Below w.heap.size w W → W.rangeAt b (o + j * 20) x.m.list) := hid (fun W hW => (HCC.out.on hW fun _ => HBW.out) j x.m (at_mgs hx))
              have HE_x := hid hx
              clear hx
              obtain ⟨xa, hxa⟩ : ∃ z, z = x.m.ab := ⟨_, rfl⟩
              have HXA := hid hxa
              clear hxa
              have c1 : wr.cell? ⟨b, o + j * 20 + 15, none⟩ = some (.int .i64 xa) := by rw [HXA.out]; exact HR_x.out _ HBc.out 15 _ rfl
              have HEND := hid (BestI.end (ls := ls) (j := j) (by have := HBI.out; rwa [HKM.out, HN.out] at this) HBW0.out HE_x.out)
              have hxa : ¬ xa > 0 := by rcases HEND.out with ⟨_, h⟩ | ⟨h, _⟩; rw [HXA.out]; omega; exact absurd (h.symm.trans HFA.out) (by simp)
              obtain ⟨fl, hfl⟩ : ∃ z, z = flagB (ls.take k) := ⟨_, rfl⟩
              rw [← hfl]
              have HFL : Hid (fl = flagB ls) := hid (by rw [hfl, HKM.out, HN.out, List.take_length])
              clear hfl
              have HBd := hid HBb.out
              rcases fl with _ | _
              · as_aux_lemma =>
                  go_wp2_with fail
                  go_loopw [12] (fun i wr => ∃ k : Nat, k ≤ m ∧ i = .int .i64 k ∧ Hid (∀ x ∈ ls.take k, hasV n ls x = false) ∧ Hid (Below w1.heap.size w1 wr)) (fun i _ => m - (RowKit.intOf i).toNat)
                  case atStart => exact ⟨0, Nat.zero_le _, rfl, hid (by simp), HBd⟩
                  case round =>
                    obtain ⟨k, hk, rfl, HN3, HBe⟩ := hrel
                    have HBf : Hid (Below w.heap.size w wr) := hid (HB1.out.trans (HBe.out.mono HB1.out.size))
                    have HRf : Hid (RoomV wr w.heap.size) := hid (HR1.out.on HBe.out)
                    by_cases hlt : k < m
                    · as_aux_lemma =>
                        have hlti : ((k : Int) < m) := by omega
                        obtain ⟨y, hy⟩ : ∃ y, ls[k]? = some y := ⟨ls[k]'(by rw [← HN.out]; exact hlt), List.getElem?_eq_getElem (by rw [← HN.out]; exact hlt)⟩
                        have HR_y : Hid (∀ W, Below w.heap.size w W → W.rangeAt b (o + k * 20) y.m.list) := hid (fun W hW => (HCC.out.on hW fun _ => HBW.out) k y.m (at_mgs hy))
                        have HE_y := hid hy
                        clear hy
                        have HYA := hid ((HA.out y (List.mem_of_getElem? HE_y.out)).on HBf.out)
                        obtain ⟨nd, hnd⟩ : ∃ z, z = neI n (m : Int) := ⟨_, rfl⟩
                        have hNE := fun W => rNeed_any n (m : Int) W
                        rw [← hnd] at hNE
                        obtain ⟨vn, hvn⟩ : ∃ z, z = votesF ls y := ⟨_, rfl⟩
                        have hv1 : vn ≤ 1000 := by have : votesF ls y ≤ ls.length := List.countP_le_length; have := HN.out; omega
                        have HHV : Hid (hasV n ls y = (!decide (y.m.ft = 0) && decide (nd ≤ (vn : Int)))) := hid (by unfold hasV; rw [four_ft (HP4.out y (List.mem_of_getElem? HE_y.out)), hnd, hvn, HN.out])
                        have HHM : Hid (∀ W, Below w.heap.size w W → Calls Try.prog 25 #[.slice (some ⟨b, o, none⟩) m cap, .agg #[.int .i64 y.m.ft, .slice y.m.fp.a y.m.fp.n y.m.fp.c]] W fun e w' => e = .returned (.int .i64 (vn : Int)) ∧ Below W.heap.size W w') := hid (fun W hW => by rw [hvn]; exact rVotes (HSL.out.on hW) (fun x hx => (HA.out x hx).on hW) HSH.out (by have := HLL.out; omega) ((HA.out y (List.mem_of_getElem? HE_y.out)).on hW) (HSH.out y (List.mem_of_getElem? HE_y.out)))
                        clear hnd hvn
                        have c0 : wr.cell? ⟨b, o + k * 20 + 18, none⟩ = some (.int .i64 y.m.ft) := HR_y.out _ HBf.out 18 _ rfl
                        have c1 : wr.cell? ⟨b, o + k * 20 + 19, none⟩ = some (.slice y.m.fp.a y.m.fp.n y.m.fp.c) := HR_y.out _ HBf.out 19 _ rfl
                        by_cases ht0 : y.m.ft = 0
                        · as_aux_lemma =>
                            have HPV : Hid (hasV n ls y = false) := hid (by rw [HHV.out]; simp [ht0])
                            have hb0 : (y.m.ft != 0) = false := by simp [ht0]
                            clear ht0
                            go_wp2_with (first
                              | (go_at_call 25; refine (HHM.out _ HBf.out).mono ?_; rintro e w3 ⟨rfl, hB⟩; have HB3 := hid hB; clear hB)
                              | (go_at_call 26; refine (hNE _).mono ?_; rintro e w' ⟨rfl, rfl⟩)
                              | fail)
                            go_roundw
                            case rel => exact ⟨k + 1, by omega, by go_num, hid (no_next HE_y.out HN3.out HPV.out), HBe⟩
                            case measure => first | omega | (simp [RowKit.intOf]; omega)
                        · as_aux_lemma =>
                            have hb0 : (y.m.ft != 0) = true := by simpa using ht0
                            by_cases hge : nd ≤ (vn : Int)
                            · as_aux_lemma =>
                                have HPV : Hid (hasV n ls y = true) := hid (by rw [HHV.out]; simp [ht0, hge])
                                have hg : (vn : Int) ≥ nd := hge
                                clear ht0 hge
                                exfalso
                                have e := HFD.out
                                unfold decF at e
                                rw [if_neg (by rw [← HFL.out]; decide), find_hit HE_y.out HN3.out HPV.out] at e
                                cases e
                            · as_aux_lemma =>
                                have HPV : Hid (hasV n ls y = false) := hid (by rw [HHV.out]; simp [hge])
                                have hg : ¬ (vn : Int) ≥ nd := hge
                                clear hge ht0
                                go_wp2_with (first
                                  | (go_at_call 25; refine (HHM.out _ HBf.out).mono ?_; rintro e w3 ⟨rfl, hB⟩; have HB3 := hid hB; clear hB)
                                  | (go_at_call 26; refine (hNE _).mono ?_; rintro e w' ⟨rfl, rfl⟩)
                                  | fail)
                                go_roundw
                                case rel => exact ⟨k + 1, by omega, by go_num, hid (no_next HE_y.out HN3.out HPV.out), hid (HBe.out.trans (HB3.out.mono (Nat.le_trans HBe.out.size (Nat.le_refl _))))⟩
                                case measure => first | omega | (simp [RowKit.intOf]; omega)
                    · as_aux_lemma =>
                        have hlti : ¬ ((k : Int) < m) := by omega
                        have HBk : Hid (Below w.heap.size w wr) := HBf
                        have HRk : Hid (RoomV wr w.heap.size) := hid (HR1.out.on HBe.out)
                        go_wp2_with (first
                          | (go_at_call 11; refine (HCF.out _ HBk.out).mono ?_; rintro e w5 hF; obtain ⟨⟨ra, rn, rc⟩, rfl, hs, hB⟩ := hF; rw [← HFE.out, ← HFT.out]; have HB5 : Hid (Below w.heap.size w w5) := hid (HBk.out.trans (hB.mono HBk.out.size)); have HR5 := hid (HRk.out.on hB); have HSR := hid hs; clear hs hB)
                          | ((with_reducible refine storeV (x := ?wx36) (y := ?wy36) (b := w5.heap.size) ft ⟨ra, rn, rc⟩ ?wg36 ?wo36 ?wxx36 ?wyy36 ?wc36 ?wh36); (case wg36 => rfl); (case wo36 => rfl); (case wxx36 => rfl); (case wyy36 => rfl); (case wc36 => exact (roomVZ w5)); intro w6 hO hU; have HX6 : Hid (OV w6 w5.heap.size ft ⟨ra, rn, rc⟩) := hid hO; have HBs : Hid (Below w5.heap.size w5 w6) := hid ((laid1_b w5 zeroVc).trans (hU.below w5.heap.size (Nat.le_refl _))); have HB6 : Hid (Below w.heap.size w w6) := hid (HB5.out.trans (HBs.out.mono HB5.out.size)); have HR6 := hid (HR5.out.on HBs.out); have HSR6 := hid (HSR.out.on HBs.out); clear hO hU)
                          | ((with_reducible refine storeV (x := ?wx37) (y := ?wy37) (b := w.heap.size) 0 zS ?wg37 ?wo37 ?wxx37 ?wyy37 ?wc37 ?wh37); (case wg37 => rfl); (case wo37 => rfl); (case wxx37 => rfl); (case wyy37 => rfl); (case wc37 => exact HR6.out); intro WZ hO hU; have HOZ : Hid (OV WZ w.heap.size 0 zS) := hid hO; have HBZ : Hid (Below w.heap.size w6 WZ) := hid (hU.below w.heap.size (Nat.le_refl _)); have HUZ := hid hU; clear hO hU)
                          | fail)
                        refine bodyPost_ret (ret_tct rfl rfl rfl rfl HOZ.out.range Try.underlying28 rfl (infoVl _ _)) rfl (RChooseP.of (c := ⟨0, 0, [], fe⟩) (r := zS) ?_ ?_ (HB6.out.trans HBZ.out))
                        · unfold choF; rw [if_pos HPR.out, HFS.out]; show (match accF ls with | some m => _ | none => _) = _; rw [HFA.out]; show (match decF n ls with | some m => _ | none => _) = _; rw [HFD.out]; show (if freshE ls = 0 then _ else _) = _; rw [if_neg (by rw [← HFE.out]; exact HFZ.out), HFE.out]
                        · exact (Own.nil WZ 0).sl
              · as_aux_lemma =>
                  go_wp2_with fail
                  go_loopw [12] (fun i wr => i = .int .i64 0 ∧ Hid (Below w1.heap.size w1 wr)) (fun i _ => 0)
                  case atStart => exact ⟨rfl, HBd⟩
                  case round =>
                    obtain ⟨rfl, HBe⟩ := hrel
                    have HBf : Hid (Below w.heap.size w wr) := hid (HB1.out.trans (HBe.out.mono HB1.out.size))
                    have HBk : Hid (Below w.heap.size w wr) := HBf
                    have HRk : Hid (RoomV wr w.heap.size) := hid (HR1.out.on HBe.out)
                    go_wp2_with (first
                      | (go_at_call 11; refine (HCF.out _ HBk.out).mono ?_; rintro e w5 hF; obtain ⟨⟨ra, rn, rc⟩, rfl, hs, hB⟩ := hF; rw [← HFE.out, ← HFT.out]; have HB5 : Hid (Below w.heap.size w w5) := hid (HBk.out.trans (hB.mono HBk.out.size)); have HR5 := hid (HRk.out.on hB); have HSR := hid hs; clear hs hB)
                      | ((with_reducible refine storeV (x := ?wx38) (y := ?wy38) (b := w5.heap.size) ft ⟨ra, rn, rc⟩ ?wg38 ?wo38 ?wxx38 ?wyy38 ?wc38 ?wh38); (case wg38 => rfl); (case wo38 => rfl); (case wxx38 => rfl); (case wyy38 => rfl); (case wc38 => exact (roomVZ w5)); intro w6 hO hU; have HX6 : Hid (OV w6 w5.heap.size ft ⟨ra, rn, rc⟩) := hid hO; have HBs : Hid (Below w5.heap.size w5 w6) := hid ((laid1_b w5 zeroVc).trans (hU.below w5.heap.size (Nat.le_refl _))); have HB6 : Hid (Below w.heap.size w w6) := hid (HB5.out.trans (HBs.out.mono HB5.out.size)); have HR6 := hid (HR5.out.on HBs.out); have HSR6 := hid (HSR.out.on HBs.out); clear hO hU)
                      | ((with_reducible refine storeV (x := ?wx39) (y := ?wy39) (b := w.heap.size) 0 zS ?wg39 ?wo39 ?wxx39 ?wyy39 ?wc39 ?wh39); (case wg39 => rfl); (case wo39 => rfl); (case wxx39 => rfl); (case wyy39 => rfl); (case wc39 => exact HR6.out); intro WZ hO hU; have HOZ : Hid (OV WZ w.heap.size 0 zS) := hid hO; have HBZ : Hid (Below w.heap.size w6 WZ) := hid (hU.below w.heap.size (Nat.le_refl _)); have HUZ := hid hU; clear hO hU)
                      | fail)
                    refine bodyPost_ret (ret_tct rfl rfl rfl rfl HOZ.out.range Try.underlying28 rfl (infoVl _ _)) rfl (RChooseP.of (c := ⟨0, 0, [], fe⟩) (r := zS) ?_ ?_ (HB6.out.trans HBZ.out))
                    · unfold choF; rw [if_pos HPR.out, HFS.out]; show (match accF ls with | some m => _ | none => _) = _; rw [HFA.out]; show (match decF n ls with | some m => _ | none => _) = _; rw [HFD.out]; show (if freshE ls = 0 then _ else _) = _; rw [if_neg (by rw [← HFE.out]; exact HFZ.out), HFE.out]
                    · exact (Own.nil WZ 0).sl
end Go.Proofs.Ytbcmhnaiabifjaa
