import Derived.Test.YtplodoindppleaaGreatLLwZm
namespace Go.Proofs.YtplodoindppleaaGreat
set_option linter.unusedVariables false
open Go.RowKit
open Go.Lib (hid)
theorem sl_C {B : Nat} {w : World} {v : Value} {cs : List C7} (h : Sl w v cs) (hB : w.heap.size ≤ B) : SetC B w v cs := by
 refine ⟨h, fun ad n c e h0 => .inl ?_⟩
 obtain ⟨b, o, cap, a, e2, _, ha, _, hb⟩ := h
 have h1 := ha h0
 have h2 := hb h0
 rw [e, h1] at e2
 injection e2 with e3
 injection e3 with e3
 subst e3
 exact Nat.lt_of_lt_of_le h2 hB
theorem at_C {B : Nat} {w : World} {x : Ms} (h : x.at w) (hB : w.heap.size ≤ B) : x.atC B w := ⟨sl_C h.1 hB, sl_C h.2.1 hB, sl_C h.2.2 hB⟩
theorem fit_short {a : Ak} (h : fitK a = true) : a.vl.length ≤ 1024 ∧ a.m.short 1024 := by
 unfold fitK at h
 simp only [Bool.and_eq_true, decide_eq_true_eq] at h
 have h2 := fitsM_short h.1
 exact ⟨by omega, ⟨Nat.le_trans h2.1 (by decide), Nat.le_trans h2.2.1 (by decide), Nat.le_trans h2.2.2 (by decide)⟩⟩
theorem right_of {N : Int} (h : 3 ≤ N ∧ N ≤ 9) : rightB N = true := by
 unfold rightB; simp; omega
theorem step_P {nd N : Int} {sent got : List An} {g : Lst} (hN : 3 ≤ N ∧ N ≤ 9) (h : InvL nd N sent got g) {a : Ak} (hs : a.m.short 1024) (hk : ¬ 2 < a.kd % 8) : StP nd N sent got (fun _ => False) (stepF nd N g a) := by
 unfold stepF
 split
 · exact start_P hN h _ _ _
 · split
   · exact take_P hN h _ _
   · split
     · exact hurry_P hN h _
     · omega
theorem hand_st {nd N : Int} {sent got : List An} {g : Lst} (hN : 3 ≤ N ∧ N ≤ 9) (h : InvL nd N sent got g) {a : Ak} (hs : a.m.short 1024) (hm : a.m.an ∈ got) (hk : 2 < a.kd % 8) : StP nd N sent got (EnA N sent got a.m.an) (stepF nd N g a) := by
 unfold stepF
 rw [if_neg (by omega), if_neg (by omega), if_neg (by omega)]
 exact hand_P hN h hs hm
set_option maxHeartbeats 16000000 in
set_option maxRecDepth 100000 in
theorem cLEnough {w : World} {x0 x1 : Int} {v : Value} {acs : List Ak} (hx : (0 ≤ x0 ∧ x0 ≤ 255) ∧ 0 ≤ x1 ∧ x1 ≤ 255) (h : SlK w v acs) (hIn : ∀ a ∈ acs, a.inW w) (hl : acs.length ≤ 9223372036854775807) : Calls Tryz.prog 4 #[.agg #[.int .u8 x0, .int .u8 x1], v] w fun e w' => e = .returned (.bool true) ∧ Below w.heap.size w w' := by
 have HB0 : Hid (Below w.heap.size w (w.alloc (.cells #[.int .u8 x0, .int .u8 x1] 62))) := hid (laid1_b w _)
 have HX0 : Hid ((w.alloc (.cells #[.int .u8 x0, .int .u8 x1] 62)).heap[w.heap.size]? = some (.cells #[.int .u8 x0, .int .u8 x1] 62 (0, 0))) := hid (laid1_0 w _)
 have HIN := hid hIn
 have hft := cFitsL (SlG.on h HB0.out) (fun a ha => ⟨(hIn a ha).1.on HB0.out, (hIn a ha).2.1.1.on HB0.out⟩) hl
 have HFT := hid hft
 clear hft hIn
 obtain ⟨b0, o0, cap0, ad0, rfl, ha, hc, hb⟩ := h
 have HCC := hid hc
 obtain ⟨m, hm⟩ : ∃ m, m = acs.length := ⟨_, rfl⟩
 rw [← hm] at ha hb hl HFT ⊢
 have HM := hid hm
 have HAD := hid ha
 have HBD := hid hb
 clear hm hc ha hb hl
 obtain ⟨N, hN, hN7⟩ : ∃ N : Int, (3 ≤ N ∧ N ≤ 9) ∧ x1.tmod 7 = N - 3 := ⟨x1.tmod 7 + 3, by have := Int.tmod_nonneg 7 hx.2.1; have := Int.tmod_lt_of_pos x1 (show (0 : Int) < 7 by decide); omega, by omega⟩
 obtain ⟨nd, hnd, hnd0⟩ : ∃ nd : Int, x0.tmod N = nd ∧ (0 ≤ nd ∧ nd < N) := ⟨_, rfl, Int.tmod_nonneg N hx.1.1, Int.tmod_lt_of_pos x0 (by omega)⟩
 go_enter Tryz.func4, Tryz.ntmps4
 go_wp2_with fail
 generalize (w.alloc (.cells #[.int .u8 x0, .int .u8 x1] 62)) = W0 at HB0 HX0 HFT ⊢
 go_at_call 5
 refine HFT.out.mono ?_
 rintro e w1 ⟨r, rfl, hr, hB⟩
 have HB1 : Hid (Below w.heap.size w w1) := hid (HB0.out.trans (hB.mono HB0.out.size))
 have HX1 : Hid (w1.heap[w.heap.size]? = some (.cells #[.int .u8 x0, .int .u8 x1] 62 (0, 0))) := hid (heapB HX0.out hB (Array.getElem?_eq_some_iff.1 HX0.out).1)
 have HR := hid hr
 clear hB HFT hr HX0 HB0
 rcases r with _ | _
 · go_wp2_with (first
    | (go_at_call 6; refine (cAliveL _).mono ?_; rintro e w9 ⟨rfl, hb⟩; have HB9 : Hid (Below w.heap.size w w9) := hid (HB1.out.trans (hb.mono HB1.out.size)); clear hb)
    | fail)
   go_ret
   exact ⟨rfl, HB9.out⟩
 · obtain ⟨hm60', hfit⟩ := HR.out rfl
   have hm60 : m ≤ 60 := by rw [HM.out]; exact hm60'
   have HFI := hid hfit
   clear hfit hm60' HR
   have c0 : w1.cell? ⟨w.heap.size, 0, none⟩ = some (.int .u8 x0) := (cellAt' HX1.out 0).trans rfl
   have c1 : w1.cell? ⟨w.heap.size, 1, none⟩ = some (.int .u8 x1) := (cellAt' HX1.out 1).trans rfl
   have hNz : ¬ N = 0 := by omega
   go_wp2_with (first
    | (go_at_call 7; refine (cNewL nd N w1 ⟨right_of hN, hnd0.1, hnd0.2⟩).mono ?_; rintro e w2 ⟨q, rfl, hq, hB, b, hL⟩; have HL2 := hid hL; have HB12 := hid hB; clear hB hL)
    | fail)
   have HB2 : Hid (Below w.heap.size w w2) := hid (HB1.out.trans (HB12.out.mono HB1.out.size))
   have HX2 : Hid (w2.heap[w.heap.size]? = some (.cells #[.int .u8 x0, .int .u8 x1] 62 (0, 0))) := hid (heapB HX1.out HB12.out (Array.getElem?_eq_some_iff.1 HX1.out).1)
   have HQ := hid hq
   clear c0 c1 hq
   go_loopw [9, 10, 11] (fun s9 s10 s11 wr => ∃ (k : Nat) (g : Gs) (sent got : List Ms), k ≤ m ∧ s11 = .int .i64 k ∧ Hid (Ld wr w1.heap.size q b k nd N g) ∧ Hid (InvL nd N (sent.map Ms.an) (got.map Ms.an) g.lst) ∧ Hid (Lm wr w1.heap.size b g s9 sent) ∧ Hid (Lm wr w1.heap.size b g s10 got) ∧ Hid (∀ j, s9.ownBlock = some j → s10.ownBlock ≠ some j) ∧ Hid (sent.length ≤ 9 * k ∧ got.length ≤ k) ∧ Hid (Below w1.heap.size w1 wr)) (fun _ _ s11 _ => m - (RowKit.intOf s11).toNat)
   case atStart => exact ⟨0, _, [], [], Nat.zero_le _, rfl, HL2, hid (fun i a e => by cases e), hid (Lm.nil _ _ _ _), hid (Lm.nil _ _ _ _), hid (fun j e => by cases e), hid ⟨Nat.le_refl _, Nat.le_refl _⟩, HB12⟩
   case round =>
    obtain ⟨k, g, sent, got, hk, rfl, HL, HI, HS, HG, HAP, HLN, HBr⟩ := hrel
    clear HL2 HB2 HX2 HB12
    have HB : Hid (Below w.heap.size w wr) := hid (HB1.out.trans (HBr.out.mono HB1.out.size))
    by_cases hlt : k < m
    · have hlti : ((k : Int) < m) := by omega
      obtain rfl := HAD.out (by omega)
      obtain ⟨y, hy⟩ : ∃ y, acs[k]? = some y := ⟨acs[k]'(by rw [← HM.out]; exact hlt), List.getElem?_eq_getElem (by rw [← HM.out]; exact hlt)⟩
      have hbw := HBD.out (by omega)
      have HC : Hid (wr.rangeAt b0 (o0 + k * 31) y.list) := hid (fun j v hv => (HB.out.cell (p := ⟨b0, o0 + k * 31 + j, none⟩) hbw).trans (HCC.out k y hy j v hv))
      have HYI := hid (HIN.out y (List.mem_of_getElem? hy))
      have HYF := hid (fit_short (HFI.out y (List.mem_of_getElem? hy)))
      clear hy hbw
      go_upto_region 13 with (first
       | ((with_reducible refine loadKl (x := ?kx1) (b := ?kb1) (o := ?ko1) y ?kg1 ?kp1 ?kxx1 ?kc1 ?_); (case kg1 => rfl); (case kp1 => rfl); (case kxx1 => rfl); (case kc1 => exact HC.out))
       | ((with_reducible refine storeK (x := ?kx2) (y := ?ky2) (b := wr.heap.size) y ?kg2 ?kp2 ?kxx2 ?kyy2 ?kr2 ?kh2); (case kg2 => rfl); (case kp2 => rfl); (case kxx2 => rfl); (case kyy2 => rfl); (case kr2 => exact roomK wr); intro W3 hO hU; have HO3 := hid hO; have HU3 : Hid (Below wr.heap.size wr W3) := hid ((laid1_b wr _).trans (hU.below wr.heap.size (Nat.le_refl _))); clear hO hU)
       | fail)
      have HYK := hid HYI.out.2.2.2
      obtain ⟨kd, hkd⟩ : ∃ z, z = y.kd := ⟨_, rfl⟩
      have HKD := hid hkd
      have c0 : W3.cell? ⟨wr.heap.size, 0, none⟩ = some (.int .u8 (kd : Int)) := (by rw [hkd]; exact HO3.out.cell (a := y) (j := 0) rfl)
      have hkd8 : kd < 256 := by rw [hkd]; exact HYK.out
      obtain ⟨r8, hr8, hk8⟩ : ∃ r : Int, (kd : Int) % 8 = r ∧ r = ((kd % 8 : Nat) : Int) := ⟨_, rfl, by omega⟩
      clear hkd
      by_cases h2 : 2 < kd % 8
      · as_aux_lemma =>
         have hb2 : (2 : Int) < r8 := by omega
         have H2 := hid h2
         clear hk8 h2 hkd8
         have HL3 := hid (HL.out.on HU3.out)
         have HS3 := hid (HS.out.on HU3.out)
         have HG3 := hid (HG.out.on HU3.out)
         have HBW := hid HBr.out.size
         go_upto_region 16 with (first
          | ((with_reducible refine loadMl (x := ?lx3) (b := wr.heap.size) (o := 11) y.m.m ?lg3 ?lp3 ?lxx3 ?lc3 ?_); (case lg3 => rfl); (case lp3 => rfl); (case lxx3 => rfl); (case lc3 => exact OK.msg HO3.out))
          | ((with_reducible refine wpList_bsM (x := ?ux4) y.m.m ?ug4 ?uo4 ?ue4 ?uh4); (case ug4 => rfl); (case uo4 => rfl); (case ue4 => rfl); intro W4 hO hB hW; have HO4 : Hid (OM W4 W3.heap.size y.m.m) := hid hO; have HB4 : Hid (Below W3.heap.size W3 W4) := hid hB; have HK4 : Hid (OK W4 wr.heap.size y) := hid (HO3.out.on hB); have HG4 := hid (HG3.out.on hB); have HS4 := hid (HS3.out.on hB); have HL4 := hid (HL3.out.on hB); clear hO hB hW)
          | ((with_reducible refine wpList_append_msF ?ag5 ?as5 ?ax5 ?ao5 w1.heap.size _ (mgs got) ?es5 HG4.out.ow (.slice (some ⟨W3.heap.size, 0, none⟩) 1 1) [y.m.m] ?ex5 (OM.sl HO4.out 1) ?en5 ?el5 ?eb5 ?eh5); (case ag5 => rfl); (case ao5 => rfl); (case es5 => rfl); (case ex5 => rfl); (case en5 => exact fun e => by cases e); (case el5 => have := HLN.out.2; unfold mgs; rw [List.length_map]; simp; omega); (case eb5 => exact Nat.le_trans HBW.out (Nat.le_trans HU3.out.size HB4.out.size)); intro v10 W5 ho hg hf; have HO5 := hid ho; have HG5 := hid hg; have HF5 := hid hf; clear ho hg hf)
          | fail)
         have hmo := HG4.out.more HL4.out (l2 := [y.m]) HO5.out HG5.out HF5.out (fun x hx => by rw [List.mem_singleton] at hx; subst hx; exact (at_C (HYI.out.2.1.1) HB1.out.size).on (HB.out.trans ((HU3.out.trans (HB4.out.mono HU3.out.size)).mono HB.out.size))) (fun x hx => by rw [List.mem_singleton] at hx; subst hx; exact HYF.out.2)
         obtain ⟨hg5, ht5⟩ := hmo
         have HGG := hid hg5
         have HLL := hid (HL4.out.beside ht5 (fun j e => own_typ HG4.out.ow e) (fun j e => HG4.out.nt j e))
         have HSS := hid (HS4.out.other (l2 := got) (u := .bool true) (u' := .bool true) ht5 (fun j e => own_typ HG4.out.ow e) (fun j e e2 => HAP.out j e e2))
         have HAA : Hid (∀ j, u9.ownBlock = some j → v10.ownBlock ≠ some j) := hid (fun j e e2 => by
          rcases HF5.out j e2 with h | h
          · exact HAP.out j e h
          · have := (HS4.out.ow.lt j e).2; omega)
         have HII : Hid (InvL nd N (sent.map Ms.an) ((got ++ [y.m]).map Ms.an) g.lst) := hid (fun i a h => (HI.out i a h).mono (fun x h => h) (fun x hx => by rw [List.map_append]; exact List.mem_append_left _ hx))
         have HKK : Hid (OK W5 wr.heap.size y) := hid ((ht5.block _ (Array.getElem?_eq_some_iff.1 HK4.out).1 (fun e => by have := (HG.out.ow.lt _ e).2; omega)).trans HK4.out)
         have HBB : Hid (Below w1.heap.size w1 W5) := hid ((HBr.out.trans ((HU3.out.trans (HB4.out.mono HU3.out.size)).mono HBr.out.size)).trans (ht5.below (fun j e => (own_typ HG4.out.ow e).1) (Nat.le_trans HBW.out (Nat.le_trans HU3.out.size HB4.out.size))))
         have hsp := hand_st (a := y) hN HII.out HYF.out.2 (by rw [List.map_append]; exact List.mem_append_right _ (List.mem_singleton.2 rfl)) (by rw [← HKD.out]; exact H2.out)
         obtain ⟨got5, hgt⟩ : ∃ z, z = got ++ [y.m] := ⟨_, rfl⟩
         rw [← hgt] at HGG HII hsp
         have HLG : Hid (got5.length ≤ k + 1) := hid (by rw [hgt, List.length_append]; have := HLN.out.2; simp; omega)
         clear hgt hg5 ht5 HG4 HS4 HL4 HO4 HB4 HK4 HG5 HO5 HF5 HL3 HS3 HG3
         have hbw5 : Below w.heap.size w W5 := HB1.out.trans (HBB.out.mono HB1.out.size)
         have hst := cStepL (a := y) HLL.out hN HBB.out.size (by omega) (szOf HLL.out HII.out hN) (HYI.out.1.on hbw5) HYF.out.1 ((at_C HYI.out.2.1.1 HB1.out.size).on hbw5) HYF.out.2 HYI.out.2.2.1 HYI.out.2.1.2 HYK.out
         obtain ⟨r, hr⟩ : ∃ r, r = stepF nd N g.lst y := ⟨_, rfl⟩
         rw [← hr] at hst hsp
         have HSTP := hid hsp
         have HST := hid hst
         clear hr hst hsp hbw5
         go_upto_region 17 with (first
          | ((with_reducible refine loadKl (x := ?kx6) (b := wr.heap.size) (o := 0) y ?kg6 ?kp6 ?kxx6 ?kc6 ?_); (case kg6 => rfl); (case kp6 => rfl); (case kxx6 => rfl); (case kc6 => exact HKK.out.range))
          | (go_at_call 15; refine HST.out.mono ?_; rintro e W6 ⟨g6, v14, ls, rfl, h2, h3, h4, h5, h6, h7, h8⟩; obtain ⟨n14, hn14⟩ : ∃ z, z = ls.length := ⟨_, rfl⟩; obtain ⟨a14, c14, rfl, hp14⟩ := out_len h2 h3 (n := n14) (by rw [← h3, List.length_map]; exact hn14.symm); have HO6 := hid h2; have HA6 := hid h3; have HL6 := hid h4; have HG6 := hid h5; have HT6 := hid h6; have HK6 := hid h7; have HN6 := hid hn14; have HP6 := hid hp14; clear h2 h3 h4 h5 h6 h7 h8 hn14 hp14)
          | fail)
         have HS6 := hid (HSS.out.act HLL.out HT6.out HK6.out)
         have HGo6 := hid (HGG.out.act HLL.out HT6.out HK6.out)
         have HI6 : Hid (InvL nd N ((sent ++ ls).map Ms.an) (got5.map Ms.an) g6.lst) := hid (by rw [HG6.out, List.map_append, HA6.out]; exact HSTP.out.inv)
         have HOF := hid (out_facts HA6.out HSTP.out.out hN)
         have HEN := hid (out_an HA6.out HSTP.out.st)
         have HBr6 : Hid (Below w1.heap.size w1 W6) := hid (HBB.out.trans (HT6.out.below (fun j e => (HLL.out.no j e).1) HBB.out.size))
         have HKw6 : Hid (OK W6 wr.heap.size y) := hid ((HT6.out.block _ (Array.getElem?_eq_some_iff.1 HKK.out).1 (fun e => by have := HL.out.lt _ e; omega)).trans HKK.out)
         have HX6 : Hid (W6.heap[w.heap.size]? = some (.cells #[.int .u8 x0, .int .u8 x1] 62 (0, 0))) := hid (heapB HX1.out HBr6.out (Array.getElem?_eq_some_iff.1 HX1.out).1)
         have HB6 : Hid (Below w.heap.size w W6) := hid (HB1.out.trans (HBr6.out.mono HB1.out.size))
         have hn9 : n14 ≤ 9 := by have := HOF.out.1; have := HN6.out; omega
         clear HST HKK HSS HGG HLL HBB HK6 HG6 HU3
         obtain ⟨p12, hp12⟩ : ∃ z, z = wr.heap.size := ⟨_, rfl⟩
         rw [← hp12] at HKw6 ⊢
         clear hp12
         by_cases hn0 : n14 = 0
         · as_aux_lemma =>
            have hnb0 : ((n14 : Int) != 0) = false := by simp [hn0]
            go_wp2_with fail
            go_loopw [15] (fun s15 wx => ∃ j : Nat, j ≤ n14 ∧ s15 = .int .i64 j ∧ Hid (Below W6.heap.size W6 wx)) (fun s15 _ => n14 - (RowKit.intOf s15).toNat)
            case atStart => exact ⟨0, Nat.zero_le _, rfl, hid (Below.refl _ _)⟩
            case round =>
             obtain ⟨j, hj, rfl, HBx⟩ := hrel
             by_cases hjl : j < n14
             · exact absurd hjl (by omega)
             · have hltj : ¬ ((j : Int) < n14) := by omega
               have HLx := hid (HL6.out.on HBx.out)
               have HSx := hid (HS6.out.on HBx.out)
               have HGx := hid (HGo6.out.on HBx.out)
               have HOx : Hid (SlM wr (.slice a14 n14 c14) (mgs ls)) := hid (SlG.on HO6.out.1 HBx.out)
               have hmn : mgs ls = [] → (Value.slice a14 n14 c14) = .slice none 0 0 ∨ ∃ ad c, (Value.slice a14 n14 c14) = .slice (some ad) 0 c := fun e => by
                have e0 : ls.length = 0 := by have := congrArg List.length e; unfold mgs at this; rw [List.length_map] at this; simpa using this
                rcases HO6.out.2.1 with ⟨h, _⟩ | ⟨ad, c, h⟩
                · exact .inl h
                · exact .inr ⟨ad, c, by rw [h, e0]⟩
               have HMN := hid hmn
               clear hmn
               have HBx1 : Hid (w1.heap.size ≤ wr.heap.size) := hid (Nat.le_trans HBr6.out.size HBx.out.size)
               go_wp2_with (first
                | ((with_reducible refine wpList_append_msF ?ag22 ?as22 ?ax22 ?ao22 w1.heap.size _ (mgs sent) ?es22 HSx.out.ow (.slice a14 n14 c14) (mgs ls) ?ex22 HOx.out ?en22 ?el22 ?eb22 ?eh22); (case ag22 => rfl); (case ao22 => rfl); (case es22 => rfl); (case ex22 => rfl); (case en22 => exact HMN.out); (case el22 => have := HLN.out.1; have := HN6.out; unfold mgs; rw [List.length_map, List.length_map]; omega); (case eb22 => exact HBx1.out); intro v9 W8 ho hg hf; have HOz := hid ho; have HGz := hid hg; have HFz := hid hf; clear ho hg hf)
                | fail)
               obtain ⟨hs8, ht8⟩ := HSx.out.more HLx.out (l2 := ls) HOz.out HGz.out HFz.out (fun x hx => ((HO6.out.2.2.1 x hx).on HBx.out).atC) (fun x hx => by obtain ⟨i, hi⟩ := List.getElem?_of_mem hx; exact right_short (HOF.out.2 i x hi).1)
               have HR1 := hid (HLx.out.beside ht8 (fun j e => own_typ HSx.out.ow e) (fun j e => HSx.out.nt j e))
               have HR2 := hid hs8
               have HR3 := hid (HGx.out.other (l2 := sent) (u := .bool true) (u' := .bool true) ht8 (fun j e => own_typ HSx.out.ow e) (fun j e e2 => HAA.out j e2 e))
               have HR4 : Hid (∀ j, v9.ownBlock = some j → v10.ownBlock ≠ some j) := hid (fun j e e2 => by
                rcases HFz.out j e with h | h
                · exact HAA.out j h e2
                · have := (HGx.out.ow.lt j e2).2; omega)
               have HR5 : Hid ((sent ++ ls).length ≤ 9 * (k + 1) ∧ got5.length ≤ k + 1) := hid ⟨by rw [List.length_append]; have := HLN.out.1; have := HN6.out; omega, HLG.out⟩
               have HR6 : Hid (Below w1.heap.size w1 W8) := hid ((HBr6.out.trans (HBx.out.mono HBr6.out.size)).trans (ht8.below (fun j e => (own_typ HSx.out.ow e).1) HBx1.out))
               clear hs8 ht8
               go_roundw
               case rel => exact ⟨k + 1, g6, sent ++ ls, got5, by omega, by go_num, HR1, HI6, HR2, HR3, HR4, HR5, HR6⟩
               case measure => first | omega | (simp [RowKit.intOf]; omega)
         · as_aux_lemma =>
            have hnb0 : ((n14 : Int) != 0) = true := by simpa using hn0
            have hnbN : ((n14 : Int) != N) = false := by have := HOF.out.1; have := HN6.out; simp; omega
            go_wp2_with fail
            go_loopw [15] (fun s15 wx => ∃ j : Nat, j ≤ n14 ∧ s15 = .int .i64 j ∧ Hid (Below W6.heap.size W6 wx)) (fun s15 _ => n14 - (RowKit.intOf s15).toNat)
            case atStart => exact ⟨0, Nat.zero_le _, rfl, hid (Below.refl _ _)⟩
            case round =>
             obtain ⟨j, hj, rfl, HBx⟩ := hrel
             by_cases hjl : j < n14
             · have hltj : ((j : Int) < n14) := by omega
               obtain ⟨b14, o14, rfl, hb14, hr14⟩ := HP6.out (by omega)
               obtain ⟨z, hz⟩ : ∃ z, ls[j]? = some z := ⟨ls[j]'(by rw [← HN6.out]; exact hjl), List.getElem?_eq_getElem (by rw [← HN6.out]; exact hjl)⟩
               have HZC : Hid (wr.rangeAt b14 (o14 + j * 20) z.m.list) := hid (fun i u hu => (HBx.out.cell (p := ⟨b14, o14 + j * 20 + i, none⟩) hb14).trans (hr14 j z hz i u hu))
               have hzf := HOF.out.2 j z hz
               have hzm := List.mem_of_getElem? hz
               have HZA : Hid (z.at wr) := hid ((((HO6.out.2.2.1 z hzm).on HBx.out).atC (B := 0)).at)
               have HZS := hid (right_short hzf.1)
               have hcr := rRightM HZA.out HZS.out
               rw [hzf.1] at hcr
               have HCR := hid hcr
               have HZF := hid hzf
               have HZM := hid hzm
               have HB14 := hid hb14
               clear hcr hzf hzm hz hr14 hb14
               go_upto_region 23 with (first
                | ((with_reducible refine loadMl (x := ?lx23) (b := b14) (o := o14 + j * 20) z.m ?lg23 ?lp23 ?lxx23 ?lc23 ?_); (case lg23 => rfl); (case lp23 => rfl); (case lxx23 => rfl); (case lc23 => exact HZC.out))
                | (go_at_call 19; refine HCR.out.mono ?_; rintro e wy ⟨rfl, hb⟩; have HBy0 := hid hb; have HBy : Hid (Below W6.heap.size W6 wy) := hid (HBx.out.trans (hb.mono HBx.out.size)); clear hb)
                | fail)
               obtain ⟨zso, hzso⟩ : ∃ s, s = z.m.so := ⟨_, rfl⟩
               have HZO := hid hzso
               have HZC2 : Hid (wy.rangeAt b14 (o14 + j * 20) z.m.list) := hid (fun i u hu => (HBy0.out.cell (p := ⟨b14, o14 + j * 20 + i, none⟩) (Nat.lt_of_lt_of_le HB14.out HBx.out.size)).trans (HZC.out i u hu))
               have d1 : wy.cell? ⟨b14, o14 + j * 20 + 1, none⟩ = some (.int .i64 nd) := (by rw [← HZF.out.2.2]; exact HZC2.out 1 _ rfl)
               have d2 : wy.cell? ⟨b14, o14 + j * 20 + 2, none⟩ = some (.int .i64 (j : Int)) := (by rw [← HZF.out.2.1]; exact HZC2.out 2 _ rfl)
               have hx6 : wy.heap[w.heap.size]? = some (.cells #[.int .u8 x0, .int .u8 x1] 62 (0, 0)) := heapB HX6.out HBy.out (Array.getElem?_eq_some_iff.1 HX6.out).1
               have c0 : wy.cell? ⟨w.heap.size, 0, none⟩ = some (.int .u8 x0) := (cellAt' hx6 0).trans rfl
               clear hx6 hzso
               go_quiet (fail)
               rename_i nq
               have HBq : Hid (Below wy.heap.size wy (wy.drewN nq)) := hid (Below.drewL (Below.refl _ wy) nq)
               generalize wy.drewN nq = wz at HBq ⊢
               have HBz : Hid (Below W6.heap.size W6 wz) := hid (HBy.out.trans (HBq.out.mono HBy.out.size))
               have HZC3 : Hid (wz.rangeAt b14 (o14 + j * 20) z.m.list) := hid (fun i u hu => (HBq.out.cell (p := ⟨b14, o14 + j * 20 + i, none⟩) (Nat.lt_of_lt_of_le HB14.out HBy.out.size)).trans (HZC2.out i u hu))
               clear d1 d2 c0
               have d0 : wz.cell? ⟨b14, o14 + j * 20, none⟩ = some (.int .i64 zso) := (by rw [HZO.out]; exact HZC3.out 0 _ rfl)
               by_cases h7 : zso = 7
               · as_aux_lemma =>
                  have hb7 : (zso == 7) = true := by simp [h7]
                  have HE := hid (HEN.out z HZM.out (HZO.out.symm.trans h7))
                  clear h7
                  go_upto_region 26 with fail
                  clear hb7 d0
                  have HEC : Hid (∀ W, Below W6.heap.size W6 W → Calls Tryz.prog 20 #[.int .i64 N, u9, v10, .agg y.m.m.arr, .agg z.m.arr] W fun e w' => e = .returned (.bool true) ∧ Below W.heap.size W w') := hid (fun W hW => by
                   have hh := cEnough (w := W) (m := y.m) (o := z) N (HS6.out.on hW).sl (HGo6.out.on hW).sl (fun x hx => ((HS6.out.on hW).at' x hx).at) HS6.out.sh (by have := HLN.out.1; omega) (fun x hx => ((HGo6.out.on hW).at' x hx).at) HGo6.out.sh (by have := HLG.out; omega) ((HYI.out.2.1.1.on HB6.out).on hW) HYF.out.2 (((HO6.out.2.2.1 z HZM.out).on hW).atC (B := 0)).at HZS.out
                   rw [enough_of HE.out] at hh
                   exact hh)
                  refine rh_start (S := fun W => Below wz.heap.size wz W) (n := 14) (listed := #[false, false, false, false, false, false, false, false, false, false, false, false, false, false]) (by kernel_rfl) rfl rfl ?_
                  have HS0 : Hid (Below wz.heap.size wz wz.drew) := hid (belowDrew (Below.refl _ wz))
                  have HKz : Hid (OK wz p12 y) := hid (HKw6.out.on HBz.out)
                  generalize wz.drew = wd at HS0 ⊢
                  refine tkS 0 ?o24 ?v24 ?l24 ?a24 ?hi24 ?hq24 ?hl24 ?hw24 ?hv24 ?ha24 HS0.out ?hh24
                  case hi24 => (simp only [List.getElem?_toArray, List.getElem?_cons_zero]; try rfl)
                  case hq24 => exact fun _ _ _ h => h
                  case hl24 => (simp only [List.setIfInBounds_toArray, List.set_cons_zero]; try rfl)
                  case hw24 => rfl
                  case hv24 =>
                   intro W hW
                   go_simp
                   try with_reducible rfl
                  case ha24 => (simp only [Act.put,gD,gE,gF]; try rfl)
                  refine tkS 1 ?o25 ?v25 ?l25 ?a25 ?hi25 ?hq25 ?hl25 ?hw25 ?hv25 ?ha25 HS0.out ?hh25
                  case hi25 => (simp only [gA,gB,gC]; try rfl)
                  case hq25 => exact fun _ _ _ h => h
                  case hl25 => (simp only [gD,gE,gF]; try rfl)
                  case hw25 => rfl
                  case hv25 =>
                   intro W hW
                   go_simp
                   try with_reducible rfl
                  case ha25 => (simp only [Act.put,gD,gE,gF]; try rfl)
                  refine tkS 2 ?o26 ?v26 ?l26 ?a26 ?hi26 ?hq26 ?hl26 ?hw26 ?hv26 ?ha26 HS0.out ?hh26
                  case hi26 => (simp only [gA,gB,gC]; try rfl)
                  case hq26 => exact fun _ _ _ h => h
                  case hl26 => (simp only [gD,gE,gF]; try rfl)
                  case hw26 => rfl
                  case hv26 =>
                   intro W hW
                   go_simp
                   try with_reducible rfl
                  case ha26 => (simp only [Act.put,gD,gE,gF]; try rfl)
                  refine tkS 3 ?o27 ?v27 ?l27 ?a27 ?hi27 ?hq27 ?hl27 ?hw27 ?hv27 ?ha27 HS0.out ?hh27
                  case hi27 => (simp only [gA,gB,gC]; try rfl)
                  case hq27 => exact fun _ _ _ h => h
                  case hl27 => (simp only [gD,gE,gF]; try rfl)
                  case hw27 => rfl
                  case hv27 =>
                   intro W hW
                   go_simp
                   try with_reducible rfl
                  case ha27 => (simp only [Act.put,gD,gE,gF]; try rfl)
                  refine tkS 4 ?o28 ?v28 ?l28 ?a28 ?hi28 ?hq28 ?hl28 ?hw28 ?hv28 ?ha28 HS0.out ?hh28
                  case hi28 => (simp only [gA,gB,gC]; try rfl)
                  case hq28 => exact fun _ _ _ h => h
                  case hl28 => (simp only [gD,gE,gF]; try rfl)
                  case hw28 => rfl
                  case hv28 =>
                   intro W hW
                   go_simp
                   try with_reducible rfl
                  case ha28 => (simp only [Act.put,gD,gE,gF]; try rfl)
                  refine tkS 5 ?o29 ?v29 ?l29 ?a29 ?hi29 ?hq29 ?hl29 ?hw29 ?hv29 ?ha29 HS0.out ?hh29
                  case hi29 => (simp only [gA,gB,gC]; try rfl)
                  case hq29 => exact fun _ _ _ h => h
                  case hl29 => (simp only [gD,gE,gF]; try rfl)
                  case hw29 => rfl
                  case hv29 =>
                   intro W hW
                   go_simp
                   try with_reducible rfl
                  case ha29 => (simp only [Act.put,gD,gE,gF]; try rfl)
                  refine rh_loadW (i := 6) (o := ?o30) (cs := y.m.m.list) (T := 48) (x := ?x30) (b := ?b30) (q := ?q30) (listed' := ?l30) (a' := ?a30) ?hi30 (by kernel_rfl) (by kernel_rfl) (by kernel_rfl) ?hq30 ?hl30 ?hg30 ?ho30 ?hx30 ?hc30 Tryz.underlying48 rfl (infoM y.m.m) ?ha30 HS0.out ?hh30
                  case hi30 => (simp only [gA,gB,gC]; try rfl)
                  case hq30 => exact fun _ _ _ h => h
                  case hl30 => (simp only [gD,gE,gF]; try rfl)
                  case hg30 => rfl
                  case ho30 => rfl
                  case hx30 => rfl
                  case hc30 => exact fun W hW => OK.msg (HKz.out.on hW)
                  case ha30 => (show Act.put _ _ (Value.agg y.m.m.arr) = _); (simp only [Act.put,gD,gE,gF]; try rfl)
                  refine tkS 7 ?o31 ?v31 ?l31 ?a31 ?hi31 ?hq31 ?hl31 ?hw31 ?hv31 ?ha31 HS0.out ?hh31
                  case hi31 => (simp only [gA,gB,gC]; try rfl)
                  case hq31 => exact fun _ _ _ h => h
                  case hl31 => (simp only [gD,gE,gF]; try rfl)
                  case hw31 => rfl
                  case hv31 =>
                   intro W hW
                   go_simp
                   try with_reducible rfl
                  case ha31 => (simp only [Act.put,gD,gE,gF]; try rfl)
                  refine tkS 8 ?o32 ?v32 ?l32 ?a32 ?hi32 ?hq32 ?hl32 ?hw32 ?hv32 ?ha32 HS0.out ?hh32
                  case hi32 => (simp only [gA,gB,gC]; try rfl)
                  case hq32 => exact fun _ _ _ h => h
                  case hl32 => (simp only [gD,gE,gF]; try rfl)
                  case hw32 => rfl
                  case hv32 =>
                   intro W hW
                   go_simp
                   try with_reducible rfl
                  case ha32 => (simp only [Act.put,gD,gE,gF]; try rfl)
                  refine tkS 9 ?o33 ?v33 ?l33 ?a33 ?hi33 ?hq33 ?hl33 ?hw33 ?hv33 ?ha33 HS0.out ?hh33
                  case hi33 => (simp only [gA,gB,gC]; try rfl)
                  case hq33 => exact fun _ _ _ h => h
                  case hl33 => (simp only [gD,gE,gF]; try rfl)
                  case hw33 => rfl
                  case hv33 =>
                   intro W hW
                   go_simp
                   try with_reducible rfl
                  case ha33 => (simp only [Act.put,gD,gE,gF]; try rfl)
                  refine rh_loadW (i := 10) (o := ?o34) (cs := z.m.list) (T := 48) (x := ?x34) (b := ?b34) (q := ?q34) (listed' := ?l34) (a' := ?a34) ?hi34 (by kernel_rfl) (by kernel_rfl) (by kernel_rfl) ?hq34 ?hl34 ?hg34 ?ho34 ?hx34 ?hc34 Tryz.underlying48 rfl (infoM z.m) ?ha34 HS0.out ?hh34
                  case hi34 => (simp only [gA,gB,gC]; try rfl)
                  case hq34 => exact fun _ _ _ h => h
                  case hl34 => (simp only [gD,gE,gF]; try rfl)
                  case hg34 => rfl
                  case ho34 => rfl
                  case hx34 => rfl
                  case hc34 => exact fun W hW i u hu => (hW.cell (p := ⟨b14, o14 + j * 20 + i, none⟩) (Nat.lt_of_lt_of_le HB14.out HBz.out.size)).trans (HZC3.out i u hu)
                  case ha34 => (show Act.put _ _ (Value.agg z.m.arr) = _); (simp only [Act.put,gD,gE,gF]; try rfl)
                  refine wpAnyH_ready (rs := [11]) (by kernel_rfl) (by simp) ?_
                  refine rh_consW (i := 11) (o := ?o35) (listed' := ?l35) ?hi35 ?hl35 ?hg35 ?hh35 ?hs35
                  case hi35 => (simp only [gA,gB,gC]; try rfl)
                  case hl35 => (simp only [gD,gE,gF]; try rfl)
                  case hg35 => rfl
                  case hs35 => exact AllReadyH.nil
                  intro K hK
                  go_simp
                  refine (HEC.out _ (HBz.out.trans (HS0.out.mono HBz.out.size))).mono ?_
                  rintro zz wv ⟨rfl, hb⟩
                  have HS1 := hid (HS0.out.trans (hb.mono HS0.out.size))
                  clear hb
                  refine hK.out _ _ HS1.out ?_
                  clear hK K
                  refine tkS 12 ?o36 ?v36 ?l36 ?a36 ?hi36 ?hq36 ?hl36 ?hw36 ?hv36 ?ha36 HS1.out ?hh36
                  case hi36 => (simp only [gA,gB,gC]; try rfl)
                  case hq36 => exact fun _ _ _ h => h
                  case hl36 => (simp only [gD,gE,gF]; try rfl)
                  case hw36 => rfl
                  case hv36 =>
                   intro W hW
                   go_simp
                   try with_reducible rfl
                  case ha36 => (simp only [Act.put,gD,gE,gF]; try rfl)
                  refine tkS 13 ?o37 ?v37 ?l37 ?a37 ?hi37 ?hq37 ?hl37 ?hw37 ?hv37 ?ha37 HS1.out ?hh37
                  case hi37 => (simp only [gA,gB,gC]; try rfl)
                  case hq37 => exact fun _ _ _ h => h
                  case hl37 => (simp only [gD,gE,gF]; try rfl)
                  case hw37 => rfl
                  case hv37 =>
                   intro W hW
                   go_simp
                   try with_reducible rfl
                  case ha37 => (simp only [Act.put,gD,gE,gF]; try rfl)
                  refine wpAnyH_done (by kernel_rfl) ?_ _
                  have HBv : Hid (Below W6.heap.size W6 wv) := hid (HBz.out.trans (HS1.out.mono HBz.out.size))
                  go_wp2_with fail
                  go_roundw
                  case rel => exact ⟨j + 1, by omega, by go_num, HBv⟩
                  case measure => first | omega | (simp [RowKit.intOf]; omega)
               · as_aux_lemma =>
                  have hb7 : (zso == 7) = false := by simpa using h7
                  go_wp2_with fail
                  go_roundw
                  case rel => exact ⟨j + 1, by omega, by go_num, HBz⟩
                  case measure => first | omega | (simp [RowKit.intOf]; omega)
             · have hltj : ¬ ((j : Int) < n14) := by omega
               have HLx := hid (HL6.out.on HBx.out)
               have HSx := hid (HS6.out.on HBx.out)
               have HGx := hid (HGo6.out.on HBx.out)
               have HOx : Hid (SlM wr (.slice a14 n14 c14) (mgs ls)) := hid (SlG.on HO6.out.1 HBx.out)
               have hmn : mgs ls = [] → (Value.slice a14 n14 c14) = .slice none 0 0 ∨ ∃ ad c, (Value.slice a14 n14 c14) = .slice (some ad) 0 c := fun e => by
                have e0 : ls.length = 0 := by have := congrArg List.length e; unfold mgs at this; rw [List.length_map] at this; simpa using this
                rcases HO6.out.2.1 with ⟨h, _⟩ | ⟨ad, c, h⟩
                · exact .inl h
                · exact .inr ⟨ad, c, by rw [h, e0]⟩
               have HMN := hid hmn
               clear hmn
               have HBx1 : Hid (w1.heap.size ≤ wr.heap.size) := hid (Nat.le_trans HBr6.out.size HBx.out.size)
               go_wp2_with (first
                | ((with_reducible refine wpList_append_msF ?ag38 ?as38 ?ax38 ?ao38 w1.heap.size _ (mgs sent) ?es38 HSx.out.ow (.slice a14 n14 c14) (mgs ls) ?ex38 HOx.out ?en38 ?el38 ?eb38 ?eh38); (case ag38 => rfl); (case ao38 => rfl); (case es38 => rfl); (case ex38 => rfl); (case en38 => exact HMN.out); (case el38 => have := HLN.out.1; have := HN6.out; unfold mgs; rw [List.length_map, List.length_map]; omega); (case eb38 => exact HBx1.out); intro v9 W8 ho hg hf; have HOz := hid ho; have HGz := hid hg; have HFz := hid hf; clear ho hg hf)
                | fail)
               obtain ⟨hs8, ht8⟩ := HSx.out.more HLx.out (l2 := ls) HOz.out HGz.out HFz.out (fun x hx => ((HO6.out.2.2.1 x hx).on HBx.out).atC) (fun x hx => by obtain ⟨i, hi⟩ := List.getElem?_of_mem hx; exact right_short (HOF.out.2 i x hi).1)
               have HR1 := hid (HLx.out.beside ht8 (fun j e => own_typ HSx.out.ow e) (fun j e => HSx.out.nt j e))
               have HR2 := hid hs8
               have HR3 := hid (HGx.out.other (l2 := sent) (u := .bool true) (u' := .bool true) ht8 (fun j e => own_typ HSx.out.ow e) (fun j e e2 => HAA.out j e2 e))
               have HR4 : Hid (∀ j, v9.ownBlock = some j → v10.ownBlock ≠ some j) := hid (fun j e e2 => by
                rcases HFz.out j e with h | h
                · exact HAA.out j h e2
                · have := (HGx.out.ow.lt j e2).2; omega)
               have HR5 : Hid ((sent ++ ls).length ≤ 9 * (k + 1) ∧ got5.length ≤ k + 1) := hid ⟨by rw [List.length_append]; have := HLN.out.1; have := HN6.out; omega, HLG.out⟩
               have HR6 : Hid (Below w1.heap.size w1 W8) := hid ((HBr6.out.trans (HBx.out.mono HBr6.out.size)).trans (ht8.below (fun j e => (own_typ HSx.out.ow e).1) HBx1.out))
               clear hs8 ht8
               go_roundw
               case rel => exact ⟨k + 1, g6, sent ++ ls, got5, by omega, by go_num, HR1, HI6, HR2, HR3, HR4, HR5, HR6⟩
               case measure => first | omega | (simp [RowKit.intOf]; omega)
      · as_aux_lemma =>
         have hb2 : ¬ (2 : Int) < r8 := by omega
         have H2 := hid h2
         clear hk8 h2 hkd8
         have HBW := hid HBr.out.size
         go_upto_region 16 with fail
         have HLL := hid (HL.out.on HU3.out)
         have HSS := hid (HS.out.on HU3.out)
         have HGG := hid (HG.out.on HU3.out)
         have HAA := HAP
         have HII := HI
         have HKK := HO3
         have HBB : Hid (Below w1.heap.size w1 W3) := hid (HBr.out.trans (HU3.out.mono HBr.out.size))
         have hsp := step_P (a := y) hN HII.out HYF.out.2 (by rw [← HKD.out]; exact H2.out)
         have HLG : Hid (got.length ≤ k + 1) := hid (by have := HLN.out.2; omega)
         have hbw5 : Below w.heap.size w W3 := HB1.out.trans (HBB.out.mono HB1.out.size)
         have hst := cStepL (a := y) HLL.out hN HBB.out.size (by omega) (szOf HLL.out HII.out hN) (HYI.out.1.on hbw5) HYF.out.1 ((at_C HYI.out.2.1.1 HB1.out.size).on hbw5) HYF.out.2 HYI.out.2.2.1 HYI.out.2.1.2 HYK.out
         obtain ⟨r, hr⟩ : ∃ r, r = stepF nd N g.lst y := ⟨_, rfl⟩
         rw [← hr] at hst hsp
         have HSTP := hid hsp
         have HST := hid hst
         clear hr hst hsp hbw5
         go_upto_region 17 with (first
          | ((with_reducible refine loadKl (x := ?kx39) (b := wr.heap.size) (o := 0) y ?kg39 ?kp39 ?kxx39 ?kc39 ?_); (case kg39 => rfl); (case kp39 => rfl); (case kxx39 => rfl); (case kc39 => exact HKK.out.range))
          | (go_at_call 15; refine HST.out.mono ?_; rintro e W6 ⟨g6, v14, ls, rfl, h2, h3, h4, h5, h6, h7, h8⟩; obtain ⟨n14, hn14⟩ : ∃ z, z = ls.length := ⟨_, rfl⟩; obtain ⟨a14, c14, rfl, hp14⟩ := out_len h2 h3 (n := n14) (by rw [← h3, List.length_map]; exact hn14.symm); have HO6 := hid h2; have HA6 := hid h3; have HL6 := hid h4; have HG6 := hid h5; have HT6 := hid h6; have HK6 := hid h7; have HN6 := hid hn14; have HP6 := hid hp14; clear h2 h3 h4 h5 h6 h7 h8 hn14 hp14)
          | fail)
         have HS6 := hid (HSS.out.act HLL.out HT6.out HK6.out)
         have HGo6 := hid (HGG.out.act HLL.out HT6.out HK6.out)
         have HI6 : Hid (InvL nd N ((sent ++ ls).map Ms.an) (got.map Ms.an) g6.lst) := hid (by rw [HG6.out, List.map_append, HA6.out]; exact HSTP.out.inv)
         have HOF := hid (out_facts HA6.out HSTP.out.out hN)
         have HEN := hid (out_an HA6.out HSTP.out.st)
         have HBr6 : Hid (Below w1.heap.size w1 W6) := hid (HBB.out.trans (HT6.out.below (fun j e => (HLL.out.no j e).1) HBB.out.size))
         have HKw6 : Hid (OK W6 wr.heap.size y) := hid ((HT6.out.block _ (Array.getElem?_eq_some_iff.1 HKK.out).1 (fun e => by have := HL.out.lt _ e; omega)).trans HKK.out)
         have HX6 : Hid (W6.heap[w.heap.size]? = some (.cells #[.int .u8 x0, .int .u8 x1] 62 (0, 0))) := hid (heapB HX1.out HBr6.out (Array.getElem?_eq_some_iff.1 HX1.out).1)
         have HB6 : Hid (Below w.heap.size w W6) := hid (HB1.out.trans (HBr6.out.mono HB1.out.size))
         have hn9 : n14 ≤ 9 := by have := HOF.out.1; have := HN6.out; omega
         clear HST HKK HSS HGG HLL HBB HK6 HG6 HU3
         obtain ⟨p12, hp12⟩ : ∃ z, z = wr.heap.size := ⟨_, rfl⟩
         rw [← hp12] at HKw6 ⊢
         clear hp12
         by_cases hn0 : n14 = 0
         · as_aux_lemma =>
            have hnb0 : ((n14 : Int) != 0) = false := by simp [hn0]
            go_wp2_with fail
            go_loopw [15] (fun s15 wx => ∃ j : Nat, j ≤ n14 ∧ s15 = .int .i64 j ∧ Hid (Below W6.heap.size W6 wx)) (fun s15 _ => n14 - (RowKit.intOf s15).toNat)
            case atStart => exact ⟨0, Nat.zero_le _, rfl, hid (Below.refl _ _)⟩
            case round =>
             obtain ⟨j, hj, rfl, HBx⟩ := hrel
             by_cases hjl : j < n14
             · exact absurd hjl (by omega)
             · have hltj : ¬ ((j : Int) < n14) := by omega
               have HLx := hid (HL6.out.on HBx.out)
               have HSx := hid (HS6.out.on HBx.out)
               have HGx := hid (HGo6.out.on HBx.out)
               have HOx : Hid (SlM wr (.slice a14 n14 c14) (mgs ls)) := hid (SlG.on HO6.out.1 HBx.out)
               have hmn : mgs ls = [] → (Value.slice a14 n14 c14) = .slice none 0 0 ∨ ∃ ad c, (Value.slice a14 n14 c14) = .slice (some ad) 0 c := fun e => by
                have e0 : ls.length = 0 := by have := congrArg List.length e; unfold mgs at this; rw [List.length_map] at this; simpa using this
                rcases HO6.out.2.1 with ⟨h, _⟩ | ⟨ad, c, h⟩
                · exact .inl h
                · exact .inr ⟨ad, c, by rw [h, e0]⟩
               have HMN := hid hmn
               clear hmn
               have HBx1 : Hid (w1.heap.size ≤ wr.heap.size) := hid (Nat.le_trans HBr6.out.size HBx.out.size)
               go_wp2_with (first
                | ((with_reducible refine wpList_append_msF ?ag41 ?as41 ?ax41 ?ao41 w1.heap.size _ (mgs sent) ?es41 HSx.out.ow (.slice a14 n14 c14) (mgs ls) ?ex41 HOx.out ?en41 ?el41 ?eb41 ?eh41); (case ag41 => rfl); (case ao41 => rfl); (case es41 => rfl); (case ex41 => rfl); (case en41 => exact HMN.out); (case el41 => have := HLN.out.1; have := HN6.out; unfold mgs; rw [List.length_map, List.length_map]; omega); (case eb41 => exact HBx1.out); intro v9 W8 ho hg hf; have HOz := hid ho; have HGz := hid hg; have HFz := hid hf; clear ho hg hf)
                | fail)
               obtain ⟨hs8, ht8⟩ := HSx.out.more HLx.out (l2 := ls) HOz.out HGz.out HFz.out (fun x hx => ((HO6.out.2.2.1 x hx).on HBx.out).atC) (fun x hx => by obtain ⟨i, hi⟩ := List.getElem?_of_mem hx; exact right_short (HOF.out.2 i x hi).1)
               have HR1 := hid (HLx.out.beside ht8 (fun j e => own_typ HSx.out.ow e) (fun j e => HSx.out.nt j e))
               have HR2 := hid hs8
               have HR3 := hid (HGx.out.other (l2 := sent) (u := .bool true) (u' := .bool true) ht8 (fun j e => own_typ HSx.out.ow e) (fun j e e2 => HAA.out j e2 e))
               have HR4 : Hid (∀ j, v9.ownBlock = some j → u10.ownBlock ≠ some j) := hid (fun j e e2 => by
                rcases HFz.out j e with h | h
                · exact HAA.out j h e2
                · have := (HGx.out.ow.lt j e2).2; omega)
               have HR5 : Hid ((sent ++ ls).length ≤ 9 * (k + 1) ∧ got.length ≤ k + 1) := hid ⟨by rw [List.length_append]; have := HLN.out.1; have := HN6.out; omega, HLG.out⟩
               have HR6 : Hid (Below w1.heap.size w1 W8) := hid ((HBr6.out.trans (HBx.out.mono HBr6.out.size)).trans (ht8.below (fun j e => (own_typ HSx.out.ow e).1) HBx1.out))
               clear hs8 ht8
               go_roundw
               case rel => exact ⟨k + 1, g6, sent ++ ls, got, by omega, by go_num, HR1, HI6, HR2, HR3, HR4, HR5, HR6⟩
               case measure => first | omega | (simp [RowKit.intOf]; omega)
         · as_aux_lemma =>
            have hnb0 : ((n14 : Int) != 0) = true := by simpa using hn0
            have hnbN : ((n14 : Int) != N) = false := by have := HOF.out.1; have := HN6.out; simp; omega
            go_wp2_with fail
            go_loopw [15] (fun s15 wx => ∃ j : Nat, j ≤ n14 ∧ s15 = .int .i64 j ∧ Hid (Below W6.heap.size W6 wx)) (fun s15 _ => n14 - (RowKit.intOf s15).toNat)
            case atStart => exact ⟨0, Nat.zero_le _, rfl, hid (Below.refl _ _)⟩
            case round =>
             obtain ⟨j, hj, rfl, HBx⟩ := hrel
             by_cases hjl : j < n14
             · have hltj : ((j : Int) < n14) := by omega
               obtain ⟨b14, o14, rfl, hb14, hr14⟩ := HP6.out (by omega)
               obtain ⟨z, hz⟩ : ∃ z, ls[j]? = some z := ⟨ls[j]'(by rw [← HN6.out]; exact hjl), List.getElem?_eq_getElem (by rw [← HN6.out]; exact hjl)⟩
               have HZC : Hid (wr.rangeAt b14 (o14 + j * 20) z.m.list) := hid (fun i u hu => (HBx.out.cell (p := ⟨b14, o14 + j * 20 + i, none⟩) hb14).trans (hr14 j z hz i u hu))
               have hzf := HOF.out.2 j z hz
               have hzm := List.mem_of_getElem? hz
               have HZA : Hid (z.at wr) := hid ((((HO6.out.2.2.1 z hzm).on HBx.out).atC (B := 0)).at)
               have HZS := hid (right_short hzf.1)
               have hcr := rRightM HZA.out HZS.out
               rw [hzf.1] at hcr
               have HCR := hid hcr
               have HZF := hid hzf
               have HZM := hid hzm
               have HB14 := hid hb14
               clear hcr hzf hzm hz hr14 hb14
               go_upto_region 23 with (first
                | ((with_reducible refine loadMl (x := ?lx42) (b := b14) (o := o14 + j * 20) z.m ?lg42 ?lp42 ?lxx42 ?lc42 ?_); (case lg42 => rfl); (case lp42 => rfl); (case lxx42 => rfl); (case lc42 => exact HZC.out))
                | (go_at_call 19; refine HCR.out.mono ?_; rintro e wy ⟨rfl, hb⟩; have HBy0 := hid hb; have HBy : Hid (Below W6.heap.size W6 wy) := hid (HBx.out.trans (hb.mono HBx.out.size)); clear hb)
                | fail)
               obtain ⟨zso, hzso⟩ : ∃ s, s = z.m.so := ⟨_, rfl⟩
               have HZO := hid hzso
               have HZC2 : Hid (wy.rangeAt b14 (o14 + j * 20) z.m.list) := hid (fun i u hu => (HBy0.out.cell (p := ⟨b14, o14 + j * 20 + i, none⟩) (Nat.lt_of_lt_of_le HB14.out HBx.out.size)).trans (HZC.out i u hu))
               have d1 : wy.cell? ⟨b14, o14 + j * 20 + 1, none⟩ = some (.int .i64 nd) := (by rw [← HZF.out.2.2]; exact HZC2.out 1 _ rfl)
               have d2 : wy.cell? ⟨b14, o14 + j * 20 + 2, none⟩ = some (.int .i64 (j : Int)) := (by rw [← HZF.out.2.1]; exact HZC2.out 2 _ rfl)
               have hx6 : wy.heap[w.heap.size]? = some (.cells #[.int .u8 x0, .int .u8 x1] 62 (0, 0)) := heapB HX6.out HBy.out (Array.getElem?_eq_some_iff.1 HX6.out).1
               have c0 : wy.cell? ⟨w.heap.size, 0, none⟩ = some (.int .u8 x0) := (cellAt' hx6 0).trans rfl
               clear hx6 hzso
               go_quiet (fail)
               rename_i nq
               have HBq : Hid (Below wy.heap.size wy (wy.drewN nq)) := hid (Below.drewL (Below.refl _ wy) nq)
               generalize wy.drewN nq = wz at HBq ⊢
               have HBz : Hid (Below W6.heap.size W6 wz) := hid (HBy.out.trans (HBq.out.mono HBy.out.size))
               have HZC3 : Hid (wz.rangeAt b14 (o14 + j * 20) z.m.list) := hid (fun i u hu => (HBq.out.cell (p := ⟨b14, o14 + j * 20 + i, none⟩) (Nat.lt_of_lt_of_le HB14.out HBy.out.size)).trans (HZC2.out i u hu))
               clear d1 d2 c0
               have d0 : wz.cell? ⟨b14, o14 + j * 20, none⟩ = some (.int .i64 zso) := (by rw [HZO.out]; exact HZC3.out 0 _ rfl)
               by_cases h7 : zso = 7
               · as_aux_lemma =>
                  exact (HEN.out z HZM.out (HZO.out.symm.trans h7)).elim
               · as_aux_lemma =>
                  have hb7 : (zso == 7) = false := by simpa using h7
                  go_wp2_with fail
                  go_roundw
                  case rel => exact ⟨j + 1, by omega, by go_num, HBz⟩
                  case measure => first | omega | (simp [RowKit.intOf]; omega)
             · have hltj : ¬ ((j : Int) < n14) := by omega
               have HLx := hid (HL6.out.on HBx.out)
               have HSx := hid (HS6.out.on HBx.out)
               have HGx := hid (HGo6.out.on HBx.out)
               have HOx : Hid (SlM wr (.slice a14 n14 c14) (mgs ls)) := hid (SlG.on HO6.out.1 HBx.out)
               have hmn : mgs ls = [] → (Value.slice a14 n14 c14) = .slice none 0 0 ∨ ∃ ad c, (Value.slice a14 n14 c14) = .slice (some ad) 0 c := fun e => by
                have e0 : ls.length = 0 := by have := congrArg List.length e; unfold mgs at this; rw [List.length_map] at this; simpa using this
                rcases HO6.out.2.1 with ⟨h, _⟩ | ⟨ad, c, h⟩
                · exact .inl h
                · exact .inr ⟨ad, c, by rw [h, e0]⟩
               have HMN := hid hmn
               clear hmn
               have HBx1 : Hid (w1.heap.size ≤ wr.heap.size) := hid (Nat.le_trans HBr6.out.size HBx.out.size)
               go_wp2_with (first
                | ((with_reducible refine wpList_append_msF ?ag43 ?as43 ?ax43 ?ao43 w1.heap.size _ (mgs sent) ?es43 HSx.out.ow (.slice a14 n14 c14) (mgs ls) ?ex43 HOx.out ?en43 ?el43 ?eb43 ?eh43); (case ag43 => rfl); (case ao43 => rfl); (case es43 => rfl); (case ex43 => rfl); (case en43 => exact HMN.out); (case el43 => have := HLN.out.1; have := HN6.out; unfold mgs; rw [List.length_map, List.length_map]; omega); (case eb43 => exact HBx1.out); intro v9 W8 ho hg hf; have HOz := hid ho; have HGz := hid hg; have HFz := hid hf; clear ho hg hf)
                | fail)
               obtain ⟨hs8, ht8⟩ := HSx.out.more HLx.out (l2 := ls) HOz.out HGz.out HFz.out (fun x hx => ((HO6.out.2.2.1 x hx).on HBx.out).atC) (fun x hx => by obtain ⟨i, hi⟩ := List.getElem?_of_mem hx; exact right_short (HOF.out.2 i x hi).1)
               have HR1 := hid (HLx.out.beside ht8 (fun j e => own_typ HSx.out.ow e) (fun j e => HSx.out.nt j e))
               have HR2 := hid hs8
               have HR3 := hid (HGx.out.other (l2 := sent) (u := .bool true) (u' := .bool true) ht8 (fun j e => own_typ HSx.out.ow e) (fun j e e2 => HAA.out j e2 e))
               have HR4 : Hid (∀ j, v9.ownBlock = some j → u10.ownBlock ≠ some j) := hid (fun j e e2 => by
                rcases HFz.out j e with h | h
                · exact HAA.out j h e2
                · have := (HGx.out.ow.lt j e2).2; omega)
               have HR5 : Hid ((sent ++ ls).length ≤ 9 * (k + 1) ∧ got.length ≤ k + 1) := hid ⟨by rw [List.length_append]; have := HLN.out.1; have := HN6.out; omega, HLG.out⟩
               have HR6 : Hid (Below w1.heap.size w1 W8) := hid ((HBr6.out.trans (HBx.out.mono HBr6.out.size)).trans (ht8.below (fun j e => (own_typ HSx.out.ow e).1) HBx1.out))
               clear hs8 ht8
               go_roundw
               case rel => exact ⟨k + 1, g6, sent ++ ls, got, by omega, by go_num, HR1, HI6, HR2, HR3, HR4, HR5, HR6⟩
               case measure => first | omega | (simp [RowKit.intOf]; omega)
    · have hlti : ¬ ((k : Int) < m) := by omega
      go_wp2_with (first
       | (go_at_call 6; refine (cAliveL _).mono ?_; rintro e w9 ⟨rfl, hb⟩; have HB9 : Hid (Below w.heap.size w w9) := hid (HB.out.trans (hb.mono HB.out.size)); clear hb)
       | fail)
      go_ret
      exact ⟨rfl, HB9.out⟩
end Go.Proofs.YtplodoindppleaaGreat
