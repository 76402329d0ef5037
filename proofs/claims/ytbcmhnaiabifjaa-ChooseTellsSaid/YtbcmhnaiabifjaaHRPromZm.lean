import Derived.Test.YtbcmhnaiabifjaaHPromZm
import Derived.Test.YtbcmhnaiabifjaaHRFreshZm
namespace Go.Proofs.Ytbcmhnaiabifjaa
set_option linter.unusedVariables false
open Go.RowKit
open Go.Lib (hid)
def BalI (ls : List Ms) (k : Nat) (t : Int) : Prop := (t = -1 ∧ ∀ x ∈ ls.take k, isP x = false) ∨ ∃ j f, ls[j]? = some f ∧ isP f = true ∧ (∀ x ∈ ls.take j, isP x = false) ∧ t = f.m.bal ∧ 0 ≤ t ∧ ∀ x ∈ ls.take k, isP x = true → x.m.bal = t
theorem BalI.skip {ls : List Ms} {k : Nat} {t : Int} {y : Ms} (h : BalI ls k t) (hy : ls[k]? = some y) (hp : isP y = false) : BalI ls (k + 1) t := by
  rcases h with ⟨h1, h2⟩ | ⟨j, f, h1, h2, h3, h4, h5, h6⟩
  · exact .inl ⟨h1, no_next hy h2 hp⟩
  · refine .inr ⟨j, f, h1, h2, h3, h4, h5, fun x hx hpx => ?_⟩
    rw [List.take_add_one, hy] at hx
    rcases List.mem_append.1 hx with hx | hx
    · exact h6 x hx hpx
    · simp at hx; subst hx; rw [hp] at hpx; cases hpx
theorem BalI.next {ls : List Ms} {k : Nat} {t : Int} {y : Ms} (h : BalI ls k t) (hy : ls[k]? = some y) (hp : isP y = true) (hb : 0 ≤ y.m.bal) (hm : ¬ (0 ≤ t ∧ ¬ y.m.bal = t)) : BalI ls (k + 1) y.m.bal := by
  rcases h with ⟨h1, h2⟩ | ⟨j, f, h1, h2, h3, h4, h5, h6⟩
  · refine .inr ⟨k, y, hy, hp, h2, rfl, hb, fun x hx hpx => ?_⟩
    rw [List.take_add_one, hy] at hx
    rcases List.mem_append.1 hx with hx | hx
    · rw [h2 x hx] at hpx; cases hpx
    · simp at hx; subst hx; rfl
  · have e : y.m.bal = t := by rcases Classical.em (y.m.bal = t) with h | h; exact h; exact absurd ⟨h5, h⟩ hm
    refine .inr ⟨j, f, h1, h2, h3, by rw [e, h4], hb, fun x hx hpx => ?_⟩
    rw [List.take_add_one, hy] at hx
    rcases List.mem_append.1 hx with hx | hx
    · rw [h6 x hx hpx, e]
    · simp at hx; subst hx; rfl
theorem BalI.bad {ls : List Ms} {k : Nat} {t : Int} {y : Ms} (h : BalI ls k t) (hy : ls[k]? = some y) (hp : isP y = true) (h0 : 0 ≤ t) (hm : ¬ y.m.bal = t) : ballB ls = false := by
  rcases h with ⟨h1, h2⟩ | ⟨j, f, h1, h2, h3, h4, h5, h6⟩
  · omega
  · exact ball_no (find_hit h1 h3 h2) (List.mem_of_getElem? hy) hp (by rw [← h4]; exact hm)
theorem BalI.good {ls : List Ms} {t : Int} (h : BalI ls ls.length t) : ballB ls = true := by
  refine ball_yes fun f hf m hm hp => ?_
  rcases h with ⟨h1, h2⟩ | ⟨j, g, h1, h2, h3, h4, h5, h6⟩
  · rw [List.take_length] at h2
    rw [h2 m hm] at hp; cases hp
  · rw [find_hit h1 h3 h2] at hf
    obtain rfl := Option.some.inj hf
    rw [List.take_length] at h6
    rw [h6 m hm hp, h4]
set_option maxHeartbeats 16000000 in
set_option maxRecDepth 100000 in
theorem rPromises {v : Value} {ls : List Ms} {w : World} (n : Int) (h : SlM w v (mgs ls)) (hA : ∀ m ∈ ls, m.at w) (hS : ∀ m ∈ ls, m.short 1024) (hl : ls.length ≤ 1000) : Calls Try.prog 24 #[.int .i64 n, v] w fun e w' => e = .returned (.bool (promB n ls)) ∧ Below w.heap.size w w' := by
  have HSH := hid hS
  clear hS
  have HLL := hid hl
  obtain ⟨b, o, cap, a, rfl, ha, hc, hb⟩ := h
  have hlm : (mgs ls).length = ls.length := by unfold mgs; rw [List.length_map]
  rw [hlm] at ha hb ⊢
  have HA := hid hA
  have HCC := hid hc
  obtain ⟨m, hm⟩ : ∃ m, m = ls.length := ⟨_, rfl⟩
  rw [← hm] at ha hb hl ⊢
  have HN := hid hm
  clear hm hA hc hlm
  have hm1 : m ≤ 1000 := by omega
  have hR := fun W => rRight_any n W
  have hC := fun W => rClassic_any n W
  obtain ⟨rb, hrb⟩ : ∃ z, z = rightB n := ⟨_, rfl⟩
  obtain ⟨cl, hcl⟩ : ∃ z, z = clI n := ⟨_, rfl⟩
  rw [← hrb] at hR
  rw [← hcl] at hC
  have HPB : Hid (promB n ls = (rb && (decide (cl ≤ (m : Int)) && (okAll n ls && ballB ls)))) := hid (by unfold promB; rw [hrb, hcl, HN.out])
  clear hrb hcl
  go_enter Try.func24, Try.ntmps24
  rcases rb with _ | _
  · as_aux_lemma =>
      go_wp2_with (first | (go_at_call 35; refine (hR _).mono ?_; rintro e w' ⟨rfl, rfl⟩) | (go_at_call 17; refine (hC _).mono ?_; rintro e w' ⟨rfl, rfl⟩) | fail)
      go_ret
      exact ⟨by rw [HPB.out]; rfl, Below.refl _ _⟩
  · as_aux_lemma =>
      by_cases hcm : cl ≤ (m : Int)
      · have hcn : ¬ (m : Int) < cl := by omega
        have HCD : Hid (decide (cl ≤ (m : Int)) = true) := hid (decide_eq_true hcm)
        clear hcm
        go_wp2_with (first | (go_at_call 35; refine (hR _).mono ?_; rintro e w' ⟨rfl, rfl⟩) | (go_at_call 17; refine (hC _).mono ?_; rintro e w' ⟨rfl, rfl⟩) | fail)
        go_loopw [6, 7] (fun s6 i wr => ∃ (k : Nat) (t : Int), k ≤ m ∧ i = .int .i64 k ∧ s6 = .int .i64 t ∧ Hid (∀ j x, j < k → ls[j]? = some x → okM n (hdC ls) (ls.take j) x = true) ∧ Hid (BalI ls k t) ∧ Hid (Below w.heap.size w wr)) (fun _ i _ => m - (RowKit.intOf i).toNat)
        case atStart => exact ⟨0, -1, Nat.zero_le _, rfl, rfl, hid (fun j x hj => absurd hj (by omega)), hid (.inl ⟨rfl, by simp⟩), hid (Below.refl _ w)⟩
        case round =>
          obtain ⟨k, t, hk, rfl, rfl, HI, HBI, HB⟩ := hrel
          by_cases hlt : k < m
          · as_aux_lemma =>
              have hlti : ((k : Int) < m) := by omega
              have HBW := hid (hb (by omega))
              obtain rfl := ha (by omega)
              obtain ⟨y, hy⟩ : ∃ y, ls[k]? = some y := ⟨ls[k]'(by rw [← HN.out]; exact hlt), List.getElem?_eq_getElem (by rw [← HN.out]; exact hlt)⟩
              have hbw := hb (by omega)
              have HC : Hid (wr.rangeAt b (o + k * 20) y.m.list) := hid ((HCC.out.on HB.out fun _ => hbw) k y.m (at_mgs hy))
              have HY := hid hy
              have HYA := hid ((HA.out y (List.mem_of_getElem? hy)).on HB.out)
              clear hy hbw
              have HYS := hid (HSH.out y (List.mem_of_getElem? HY.out))
              have hm0 : 0 < m := by omega
              obtain ⟨f0, hf0⟩ : ∃ y, ls[0]? = some y := ⟨ls[0]'(by rw [← HN.out]; omega), List.getElem?_eq_getElem (by rw [← HN.out]; omega)⟩
              have HHC : Hid (hdC ls = f0.m.c) := hid (by unfold hdC; rw [List.head?_eq_getElem?, hf0]; rfl)
              have HRY : Hid (∀ W, Below w.heap.size w W → W.rangeAt b (o + k * 20) y.m.list) := hid (fun W hW => (HCC.out.on hW fun _ => HBW.out) k y.m (at_mgs HY.out))
              have HR0 : Hid (∀ W, Below w.heap.size w W → W.rangeAt b o f0.m.list) := hid (fun W hW => by have := (HCC.out.on hW fun _ => HBW.out) 0 f0.m (at_mgs hf0); rwa [Nat.zero_mul, Nat.add_zero] at this)
              clear hf0
              obtain ⟨rm, hrm⟩ : ∃ z, z = rightM y := ⟨_, rfl⟩
              have HRM := hid hrm
              have HCR : Hid (Calls Try.prog 30 #[.agg y.m.arr] wr fun e w' => e = .returned (.bool rm) ∧ Below wr.heap.size wr w') := hid (by rw [hrm]; exact rRightM HYA.out HYS.out)
              clear hrm
              go_wp2_with (first
                | ((with_reducible refine loadMl (x := ?lx1) (b := ?lb1) (o := ?lo1) y.m ?lg1 ?lp1 ?lxx1 ?lc1 ?_); (case lg1 => rfl); (case lp1 => rfl); (case lxx1 => rfl); (case lc1 => exact HC.out))
                | (go_at_call 30; refine HCR.out.mono ?_; rintro e w1 ⟨rfl, hB⟩; have HB1 : Hid (Below w.heap.size w w1) := hid (HB.out.trans (hB.mono HB.out.size)); clear hB)
                | fail)
              obtain ⟨so, hso⟩ : ∃ z, z = y.m.so := ⟨_, rfl⟩
              have HSO := hid hso
              clear hso
              obtain ⟨fr, hfr⟩ : ∃ z, z = y.m.fr := ⟨_, rfl⟩
              have HFR := hid hfr
              clear hfr
              obtain ⟨yb, hyb⟩ : ∃ z, z = y.m.bal := ⟨_, rfl⟩
              have HYB := hid hyb
              clear hyb
              have HF : Hid (∀ W, Below w.heap.size w W → W.cell? ⟨b, o + k * 20, none⟩ = some (.int .i64 so) ∧ W.cell? ⟨b, o + k * 20 + 1, none⟩ = some (.int .i64 fr) ∧ W.cell? ⟨b, o + k * 20 + 3, none⟩ = some (.int .i64 yb)) := hid (fun W hW => by rw [HSO.out, HFR.out, HYB.out]; have hh := HRY.out W hW; exact ⟨hh 0 _ rfl, hh 1 _ rfl, hh 3 _ rfl⟩)
              obtain ⟨c0, c1, c3⟩ := HF.out _ HB1.out
              have d0 : w1.cell? ⟨b, o + k * 20 + 4, none⟩ = some (.int .i64 y.m.c.i) := HRY.out _ HB1.out 4 _ rfl
              have d1 : w1.cell? ⟨b, o + k * 20 + 5, none⟩ = some (.int .i64 y.m.c.k) := HRY.out _ HB1.out 5 _ rfl
              have d2 : w1.cell? ⟨b, o + k * 20 + 6, none⟩ = some (.int .i64 y.m.c.s) := HRY.out _ HB1.out 6 _ rfl
              have d3 : w1.cell? ⟨b, o + k * 20 + 7, none⟩ = some (.int .i64 y.m.c.t) := HRY.out _ HB1.out 7 _ rfl
              have d4 : w1.cell? ⟨b, o + k * 20 + 8, none⟩ = some (.int .i64 y.m.c.d) := HRY.out _ HB1.out 8 _ rfl
              have d5 : w1.cell? ⟨b, o + k * 20 + 9, none⟩ = some (.int .i64 y.m.c.p) := HRY.out _ HB1.out 9 _ rfl
              have d6 : w1.cell? ⟨b, o + k * 20 + 10, none⟩ = some (.int .i64 y.m.c.q) := HRY.out _ HB1.out 10 _ rfl
              have g0 : w1.cell? ⟨b, o + 4, none⟩ = some (.int .i64 f0.m.c.i) := HR0.out _ HB1.out 4 _ rfl
              have g1 : w1.cell? ⟨b, o + 5, none⟩ = some (.int .i64 f0.m.c.k) := HR0.out _ HB1.out 5 _ rfl
              have g2 : w1.cell? ⟨b, o + 6, none⟩ = some (.int .i64 f0.m.c.s) := HR0.out _ HB1.out 6 _ rfl
              have g3 : w1.cell? ⟨b, o + 7, none⟩ = some (.int .i64 f0.m.c.t) := HR0.out _ HB1.out 7 _ rfl
              have g4 : w1.cell? ⟨b, o + 8, none⟩ = some (.int .i64 f0.m.c.d) := HR0.out _ HB1.out 8 _ rfl
              have g5 : w1.cell? ⟨b, o + 9, none⟩ = some (.int .i64 f0.m.c.p) := HR0.out _ HB1.out 9 _ rfl
              have g6 : w1.cell? ⟨b, o + 10, none⟩ = some (.int .i64 f0.m.c.q) := HR0.out _ HB1.out 10 _ rfl
              rcases rm with _ | _
              · as_aux_lemma =>
                  have HE : Hid (okAll n ls = false) := hid (okAll_no HY.out (okM_false fun hh => by have hmm := hh.1; unfold mayB at hmm; rw [← HRM.out] at hmm; simp at hmm))
                  go_quiet (fail)
                  go_wp2_with fail
                  go_ret
                  exact ⟨by rw [HPB.out, HCD.out, HE.out]; rfl, by first | exact HB1.out | exact Below.drewN' HB1.out _⟩
              · as_aux_lemma =>
                  by_cases hfn : n ≤ fr
                  · as_aux_lemma =>
                      have HE : Hid (okAll n ls = false) := hid (okAll_no HY.out (okM_false fun hh => by rw [← HFR.out] at hh; exact absurd hh.2.2.1 (by omega)))
                      have hfn' : (fr ≥ n)  := hfn
                      go_quiet (fail)
                      go_wp2_with fail
                      go_ret
                      exact ⟨by rw [HPB.out, HCD.out, HE.out]; rfl, by first | exact HB1.out | exact Below.drewN' HB1.out _⟩
                  · as_aux_lemma =>
                      have hfn' : ¬ fr ≥ n := by omega
                      have HFN : Hid (fr < n) := hid (by omega)
                      rcases hsm : y.m.c.same f0.m.c with _ | _
                      · as_aux_lemma =>
                          have hE := fun W => neqC hsm W
                          have hG := fun op p q W => guardC op p q y.m.c f0.m.c W
                          simp only [C7.v, cmV] at hE hG
                          have HSM := hid hsm
                          clear hsm
                          have HE : Hid (okAll n ls = false) := hid (okAll_no HY.out (okM_false fun hh => by rw [HHC.out, HSM.out] at hh; cases hh.2.1))
                          go_quiet (fail)
                          go_wp2_with fail
                          go_ret
                          exact ⟨by rw [HPB.out, HCD.out, HE.out]; rfl, by first | exact HB1.out | exact Below.drewN' HB1.out _⟩
                      · as_aux_lemma =>
                          have hE := fun W => neqC hsm W
                          have hG := fun op p q W => guardC op p q y.m.c f0.m.c W
                          simp only [C7.v, cmV] at hE hG
                          have HSM := hid hsm
                          clear hsm
                          by_cases h4 : so = 4
                          · as_aux_lemma =>
                              have s4 : (so == 4) = true := by simp [h4]
                              have s4n : (so != 4) = false := by simp [h4]
                              have HS47 : Hid (so = 4 ∨ so = 7) := hid (.inl h4)
                              have HPY : Hid (isP y = true) := hid (by unfold isP; rw [← HSO.out]; exact decide_eq_true h4)
                              have HYB0 : Hid (0 ≤ yb) := hid (by have := within_le (right_own HRM.out.symm).2.2.2.1; rw [HYB.out]; exact this.1)
                              clear h4
                              go_quiet (fail)
                              obtain ⟨Wq, hWq⟩ : ∃ Wq, Wq = w1.drewN nq := ⟨_, rfl⟩
                              rw [← hWq]
                              have HWQ : Hid (Below w.heap.size w Wq) := hid (by rw [hWq]; exact Below.drewN' HB1.out _)
                              clear hWq hE hG
                              clear c0 c1 c3 d0 d1 d2 d3 d4 d5 d6 g0 g1 g2 g3 g4 g5 g6
                              obtain ⟨c0, c1, c3⟩ := HF.out _ HWQ.out
                              by_cases ht0 : 0 ≤ t
                              · as_aux_lemma =>
                                  have tt0 : t ≥ 0 := ht0
                                  by_cases hbb : yb = t
                                  · as_aux_lemma =>
                                      have HBBQ := hid hbb
                                      have hbq : (yb != t) = false := by simp [hbb]
                                      clear hbb
                                      go_wp2_with fail
                                      go_loopw [9] (fun i wr => ∃ j : Nat, j ≤ k ∧ i = .int .i64 j ∧ Hid (∀ x ∈ ls.take j, ¬ x.m.fr = fr) ∧ Hid (Below w.heap.size w wr)) (fun i _ => k - (RowKit.intOf i).toNat)
                                      case atStart => exact ⟨0, Nat.zero_le _, rfl, hid (by simp), HWQ⟩
                                      case round =>
                                        obtain ⟨j, hj, rfl, HJ, HB2⟩ := hrel
                                        by_cases hjk : j < k
                                        · as_aux_lemma =>
                                            have hjki : ((j : Int) < k) := by omega
                                            have hjm : j < m := by omega
                                            have hjmi : ((j : Int) < m) := by omega
                                            obtain ⟨x, hx⟩ : ∃ x, ls[j]? = some x := ⟨ls[j]'(by rw [← HN.out]; exact hjm), List.getElem?_eq_getElem (by rw [← HN.out]; exact hjm)⟩
                                            have HX := hid hx
                                            obtain ⟨xf, hxf⟩ : ∃ z, z = x.m.fr := ⟨_, rfl⟩
                                            have HXF := hid hxf
                                            have e1 : wr.cell? ⟨b, o + j * 20 + 1, none⟩ = some (.int .i64 xf) := by rw [hxf]; exact ((HCC.out.on HB2.out fun _ => HBW.out) j x.m (at_mgs hx)) 1 _ rfl
                                            obtain ⟨e2, e3, e4⟩ := HF.out _ HB2.out
                                            clear hx hxf e2 e4
                                            by_cases hq : xf = fr
                                            · as_aux_lemma =>
                                                have HQ := hid hq
                                                have hqb : (xf == fr) = true := by simp [hq]
                                                clear hq
                                                have HE : Hid (okAll n ls = false) := hid (okAll_no HY.out (okM_false fun hh => by have h4 := hh.2.2.2; rw [List.any_eq_false] at h4; exact h4 x (by rw [List.mem_take_iff_getElem]; exact ⟨j, by have := (List.getElem?_eq_some_iff.1 HX.out).1; omega, (List.getElem?_eq_some_iff.1 HX.out).2⟩) (by rw [← HXF.out, ← HFR.out]; simp [HQ.out])))
                                                go_wp2_with fail
                                                go_quiet (fail)
                                                go_wp2_with fail
                                                go_ret
                                                exact ⟨by rw [HPB.out, HCD.out, HE.out]; rfl, by first | exact HB2.out | exact Below.drewN' HB2.out _⟩
                                            · as_aux_lemma =>
                                                have HQ := hid hq
                                                have hqb : (xf == fr) = false := by simp [hq]
                                                clear hq
                                                go_wp2_with fail
                                                go_quiet (fail)
                                                go_wp2_with fail
                                                go_roundw
                                                case rel => exact ⟨j + 1, by omega, by go_num, hid (fun z hz => by rw [List.take_add_one, HX.out] at hz; rcases List.mem_append.1 hz with hz | hz; exact HJ.out z hz; simp at hz; subst hz; rw [← HXF.out]; exact HQ.out), hid (by first | exact HB2.out | exact Below.drewN' HB2.out _)⟩
                                                case measure => first | omega | (simp [RowKit.intOf]; omega)
                                        · as_aux_lemma =>
                                            have hjki : ¬ ((j : Int) < k) := by omega
                                            have HJK : Hid (j = k) := hid (by omega)
                                            go_wp2_with fail
                                            go_roundw
                                            case rel => exact ⟨k + 1, yb, by omega, by go_num, rfl, hid (fun q x hq hx => by by_cases hqk : q < k; exact HI.out q x hqk hx; obtain rfl : q = k := (by omega); rw [HY.out] at hx; obtain rfl := Option.some.inj hx; exact okM_true (by unfold mayB; rw [← HRM.out, ← HSO.out]; simp [HS47.out]) (by rw [HHC.out]; exact HSM.out) (by rw [← HFR.out]; exact HFN.out) (by rw [List.any_eq_false]; intro z hz; have := HJ.out z (by rw [HJK.out]; exact hz); rw [← HFR.out]; simpa using this)), hid (by have := HBI.out.next HY.out HPY.out (by rw [← HYB.out]; exact HYB0.out) (fun hh => hh.2 (by rw [← HYB.out]; exact HBBQ.out)); rwa [← HYB.out] at this), HB2⟩
                                            case measure => first | omega | (simp [RowKit.intOf]; omega)
                                  · as_aux_lemma =>
                                      have hbq : (yb != t) = true := by simp [hbb]
                                      have HE : Hid (ballB ls = false) := hid (HBI.out.bad HY.out HPY.out ht0 (by rw [← HYB.out]; exact hbb))
                                      clear hbb
                                      go_wp2_with fail
                                      go_ret
                                      exact ⟨by rw [HPB.out, HCD.out, HE.out]; simp, HWQ.out⟩
                              · as_aux_lemma =>
                                  have tt0 : ¬ t ≥ 0 := by omega
                                  have HT0 := hid ht0
                                  go_wp2_with fail
                                  go_loopw [9] (fun i wr => ∃ j : Nat, j ≤ k ∧ i = .int .i64 j ∧ Hid (∀ x ∈ ls.take j, ¬ x.m.fr = fr) ∧ Hid (Below w.heap.size w wr)) (fun i _ => k - (RowKit.intOf i).toNat)
                                  case atStart => exact ⟨0, Nat.zero_le _, rfl, hid (by simp), HWQ⟩
                                  case round =>
                                    obtain ⟨j, hj, rfl, HJ, HB2⟩ := hrel
                                    by_cases hjk : j < k
                                    · as_aux_lemma =>
                                        have hjki : ((j : Int) < k) := by omega
                                        have hjm : j < m := by omega
                                        have hjmi : ((j : Int) < m) := by omega
                                        obtain ⟨x, hx⟩ : ∃ x, ls[j]? = some x := ⟨ls[j]'(by rw [← HN.out]; exact hjm), List.getElem?_eq_getElem (by rw [← HN.out]; exact hjm)⟩
                                        have HX := hid hx
                                        obtain ⟨xf, hxf⟩ : ∃ z, z = x.m.fr := ⟨_, rfl⟩
                                        have HXF := hid hxf
                                        have e1 : wr.cell? ⟨b, o + j * 20 + 1, none⟩ = some (.int .i64 xf) := by rw [hxf]; exact ((HCC.out.on HB2.out fun _ => HBW.out) j x.m (at_mgs hx)) 1 _ rfl
                                        obtain ⟨e2, e3, e4⟩ := HF.out _ HB2.out
                                        clear hx hxf e2 e4
                                        by_cases hq : xf = fr
                                        · as_aux_lemma =>
                                            have HQ := hid hq
                                            have hqb : (xf == fr) = true := by simp [hq]
                                            clear hq
                                            have HE : Hid (okAll n ls = false) := hid (okAll_no HY.out (okM_false fun hh => by have h4 := hh.2.2.2; rw [List.any_eq_false] at h4; exact h4 x (by rw [List.mem_take_iff_getElem]; exact ⟨j, by have := (List.getElem?_eq_some_iff.1 HX.out).1; omega, (List.getElem?_eq_some_iff.1 HX.out).2⟩) (by rw [← HXF.out, ← HFR.out]; simp [HQ.out])))
                                            go_wp2_with fail
                                            go_quiet (fail)
                                            go_wp2_with fail
                                            go_ret
                                            exact ⟨by rw [HPB.out, HCD.out, HE.out]; rfl, by first | exact HB2.out | exact Below.drewN' HB2.out _⟩
                                        · as_aux_lemma =>
                                            have HQ := hid hq
                                            have hqb : (xf == fr) = false := by simp [hq]
                                            clear hq
                                            go_wp2_with fail
                                            go_quiet (fail)
                                            go_wp2_with fail
                                            go_roundw
                                            case rel => exact ⟨j + 1, by omega, by go_num, hid (fun z hz => by rw [List.take_add_one, HX.out] at hz; rcases List.mem_append.1 hz with hz | hz; exact HJ.out z hz; simp at hz; subst hz; rw [← HXF.out]; exact HQ.out), hid (by first | exact HB2.out | exact Below.drewN' HB2.out _)⟩
                                            case measure => first | omega | (simp [RowKit.intOf]; omega)
                                    · as_aux_lemma =>
                                        have hjki : ¬ ((j : Int) < k) := by omega
                                        have HJK : Hid (j = k) := hid (by omega)
                                        go_wp2_with fail
                                        go_roundw
                                        case rel => exact ⟨k + 1, yb, by omega, by go_num, rfl, hid (fun q x hq hx => by by_cases hqk : q < k; exact HI.out q x hqk hx; obtain rfl : q = k := (by omega); rw [HY.out] at hx; obtain rfl := Option.some.inj hx; exact okM_true (by unfold mayB; rw [← HRM.out, ← HSO.out]; simp [HS47.out]) (by rw [HHC.out]; exact HSM.out) (by rw [← HFR.out]; exact HFN.out) (by rw [List.any_eq_false]; intro z hz; have := HJ.out z (by rw [HJK.out]; exact hz); rw [← HFR.out]; simpa using this)), hid (by have := HBI.out.next HY.out HPY.out (by rw [← HYB.out]; exact HYB0.out) (fun hh => absurd hh.1 (by have := HT0.out; omega)); rwa [← HYB.out] at this), HB2⟩
                                        case measure => first | omega | (simp [RowKit.intOf]; omega)
                          · as_aux_lemma =>
                              by_cases h7 : so = 7
                              · as_aux_lemma =>
                                  have s4 : (so == 4) = false := by simp [h4]
                                  have s4n : (so != 4) = true := by simp [h4]
                                  have s7n : (so != 7) = false := by simp [h7]
                                  have HS47 : Hid (so = 4 ∨ so = 7) := hid (.inr h7)
                                  have HPY : Hid (isP y = false) := hid (by unfold isP; rw [← HSO.out]; exact decide_eq_false h4)
                                  clear h4 h7
                                  go_quiet (fail)
                                  obtain ⟨Wq, hWq⟩ : ∃ Wq, Wq = w1.drewN nq := ⟨_, rfl⟩
                                  rw [← hWq]
                                  have HWQ : Hid (Below w.heap.size w Wq) := hid (by rw [hWq]; exact Below.drewN' HB1.out _)
                                  clear hWq hE hG
                                  clear c0 c1 c3 d0 d1 d2 d3 d4 d5 d6 g0 g1 g2 g3 g4 g5 g6
                                  obtain ⟨c0, c1, c3⟩ := HF.out _ HWQ.out
                                  go_wp2_with fail
                                  go_loopw [9] (fun i wr => ∃ j : Nat, j ≤ k ∧ i = .int .i64 j ∧ Hid (∀ x ∈ ls.take j, ¬ x.m.fr = fr) ∧ Hid (Below w.heap.size w wr)) (fun i _ => k - (RowKit.intOf i).toNat)
                                  case atStart => exact ⟨0, Nat.zero_le _, rfl, hid (by simp), HWQ⟩
                                  case round =>
                                    obtain ⟨j, hj, rfl, HJ, HB2⟩ := hrel
                                    by_cases hjk : j < k
                                    · as_aux_lemma =>
                                        have hjki : ((j : Int) < k) := by omega
                                        have hjm : j < m := by omega
                                        have hjmi : ((j : Int) < m) := by omega
                                        obtain ⟨x, hx⟩ : ∃ x, ls[j]? = some x := ⟨ls[j]'(by rw [← HN.out]; exact hjm), List.getElem?_eq_getElem (by rw [← HN.out]; exact hjm)⟩
                                        have HX := hid hx
                                        obtain ⟨xf, hxf⟩ : ∃ z, z = x.m.fr := ⟨_, rfl⟩
                                        have HXF := hid hxf
                                        have e1 : wr.cell? ⟨b, o + j * 20 + 1, none⟩ = some (.int .i64 xf) := by rw [hxf]; exact ((HCC.out.on HB2.out fun _ => HBW.out) j x.m (at_mgs hx)) 1 _ rfl
                                        obtain ⟨e2, e3, e4⟩ := HF.out _ HB2.out
                                        clear hx hxf e2 e4
                                        by_cases hq : xf = fr
                                        · as_aux_lemma =>
                                            have HQ := hid hq
                                            have hqb : (xf == fr) = true := by simp [hq]
                                            clear hq
                                            have HE : Hid (okAll n ls = false) := hid (okAll_no HY.out (okM_false fun hh => by have h4 := hh.2.2.2; rw [List.any_eq_false] at h4; exact h4 x (by rw [List.mem_take_iff_getElem]; exact ⟨j, by have := (List.getElem?_eq_some_iff.1 HX.out).1; omega, (List.getElem?_eq_some_iff.1 HX.out).2⟩) (by rw [← HXF.out, ← HFR.out]; simp [HQ.out])))
                                            go_wp2_with fail
                                            go_quiet (fail)
                                            go_wp2_with fail
                                            go_ret
                                            exact ⟨by rw [HPB.out, HCD.out, HE.out]; rfl, by first | exact HB2.out | exact Below.drewN' HB2.out _⟩
                                        · as_aux_lemma =>
                                            have HQ := hid hq
                                            have hqb : (xf == fr) = false := by simp [hq]
                                            clear hq
                                            go_wp2_with fail
                                            go_quiet (fail)
                                            go_wp2_with fail
                                            go_roundw
                                            case rel => exact ⟨j + 1, by omega, by go_num, hid (fun z hz => by rw [List.take_add_one, HX.out] at hz; rcases List.mem_append.1 hz with hz | hz; exact HJ.out z hz; simp at hz; subst hz; rw [← HXF.out]; exact HQ.out), hid (by first | exact HB2.out | exact Below.drewN' HB2.out _)⟩
                                            case measure => first | omega | (simp [RowKit.intOf]; omega)
                                    · as_aux_lemma =>
                                        have hjki : ¬ ((j : Int) < k) := by omega
                                        have HJK : Hid (j = k) := hid (by omega)
                                        go_wp2_with fail
                                        go_roundw
                                        case rel => exact ⟨k + 1, t, by omega, by go_num, rfl, hid (fun q x hq hx => by by_cases hqk : q < k; exact HI.out q x hqk hx; obtain rfl : q = k := (by omega); rw [HY.out] at hx; obtain rfl := Option.some.inj hx; exact okM_true (by unfold mayB; rw [← HRM.out, ← HSO.out]; simp [HS47.out]) (by rw [HHC.out]; exact HSM.out) (by rw [← HFR.out]; exact HFN.out) (by rw [List.any_eq_false]; intro z hz; have := HJ.out z (by rw [HJK.out]; exact hz); rw [← HFR.out]; simpa using this)), hid (HBI.out.skip HY.out HPY.out), HB2⟩
                                        case measure => first | omega | (simp [RowKit.intOf]; omega)
                              · as_aux_lemma =>
                                  have s4n : (so != 4) = true := by simp [h4]
                                  have s7n : (so != 7) = true := by simp [h7]
                                  have HE : Hid (okAll n ls = false) := hid (okAll_no HY.out (okM_false fun hh => by have hmm := hh.1; unfold mayB at hmm; rw [← HSO.out] at hmm; simp [h4, h7] at hmm))
                                  clear h4 h7
                                  go_quiet (fail)
                                  go_wp2_with fail
                                  go_ret
                                  exact ⟨by rw [HPB.out, HCD.out, HE.out]; rfl, by first | exact HB1.out | exact Below.drewN' HB1.out _⟩
          · as_aux_lemma =>
              have hlti : ¬ ((k : Int) < m) := by omega
              have hkm : k = m := by omega
              have HE : Hid (okAll n ls = true) := hid (okAll_true.2 fun j x hx => HI.out j x (by have := (List.getElem?_eq_some_iff.1 hx).1; rw [hkm, HN.out]; exact this) hx)
              have HE2 : Hid (ballB ls = true) := hid (BalI.good (t := t) (by have := HBI.out; rwa [hkm, HN.out] at this))
              clear hkm
              go_wp2_with fail
              go_ret
              exact ⟨by rw [HPB.out, HCD.out, HE.out, HE2.out]; rfl, HB.out⟩
      · as_aux_lemma =>
          have hcn : (m : Int) < cl := by omega
          have HCD : Hid (decide (cl ≤ (m : Int)) = false) := hid (decide_eq_false hcm)
          clear hcm
          go_wp2_with (first | (go_at_call 35; refine (hR _).mono ?_; rintro e w' ⟨rfl, rfl⟩) | (go_at_call 17; refine (hC _).mono ?_; rintro e w' ⟨rfl, rfl⟩) | fail)
          go_ret
          exact ⟨by rw [HPB.out, HCD.out]; rfl, Below.refl _ _⟩
end Go.Proofs.Ytbcmhnaiabifjaa
