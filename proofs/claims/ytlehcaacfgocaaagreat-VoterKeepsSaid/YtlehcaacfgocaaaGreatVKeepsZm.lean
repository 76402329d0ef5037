import Derived.Test.YtlehcaacfgocaaaGreatG45
/- The law VoterKeeps: the walk. -/
namespace Go.Proofs.YtlehcaacfgocaaaGreat
set_option linter.unusedVariables false
open Go.RowKit
open Go.Lib (hid)

theorem newR_ok {n : Int} (h : 0 ≤ n ∧ n ≤ 8) : newR n 0 [] = 0 := by
  unfold newR inB
  rw [if_pos (by simp; omega), if_pos (by simp)]
theorem roomMz (w : World) : RoomM (w.alloc zeroMc) w.heap.size := ⟨_, heap_alloc_new w _, rfl⟩
/-- Behind a call of Handle: what lay beside the voter lies. -/
theorem OutF.beside {w w' : World} {B : Bd} {q x b b2 N : Nat} {nd : Int} {wv : Value} {r : Sd × List Ms × List An} {e : Ending} {s : Sd} {ws : List Ms} {N0 : Nat} (h : OutF w B q x b b2 N nd wv r e w') (hv : Vo w B q x b b2 N0 nd s wv ws) : ∀ {k : Nat} {o : Obj}, w.heap[k]? = some o → (∀ j, TV q x b b2 j → j < k) → (∀ j, wv.ownBlock = some j → j < k) → w'.heap[k]? = some o := fun {k o} hk h1 h2 => by
  obtain ⟨v, ls, wv', _, _, _, _, _, _, hT, _, _⟩ := h
  refine hT.ob hk fun hs => ?_
  rcases hs with hs | hs
  · have := h1 k hs; omega
  · have := h2 k hs; omega
set_option maxHeartbeats 32000000 in
set_option maxRecDepth 100000 in
theorem cVKeeps {w : World} {nd : Int} {va : Value} {ls : List Ms} (hnd : 0 ≤ nd ∧ nd ≤ 255) (hs : SlM w va (mgs ls)) (hIn : ∀ m ∈ ls, m.inW w) (hl : ls.length ≤ 9223372036854775807) :
    Calls Tryz.prog 5 #[.int .u8 nd, va] w fun e w' => e = .returned (.bool true) ∧ Below w.heap.size w w' := by
  obtain ⟨n9, hn9⟩ : ∃ n, n = nd.tmod 9 := ⟨_, rfl⟩
  have h9 : 0 ≤ n9 ∧ n9 ≤ 8 := by rw [hn9, Int.tmod_eq_emod_of_nonneg hnd.1]; omega
  have hn9' := hn9.symm
  have hF := cFitsMs hs (fun m hm => (hIn m hm).1) hl
  obtain ⟨ab, ao, acap, aa, rfl, haa, hac1, hab⟩ := hs
  have hlm : (mgs ls).length = ls.length := by unfold mgs; rw [List.length_map]
  rw [hlm] at haa hab hF ⊢
  obtain ⟨m, hm⟩ : ∃ m, m = ls.length := ⟨_, rfl⟩
  rw [← hm] at haa hab hl hF ⊢
  have HN9 := hid h9
  have HIN := hid hIn
  have HM := hid hm
  have HAC := hid hac1
  have HAB := hid hab
  have HAP := hid haa
  have HF := hid hF
  have HW0 := hid (Below.refl w.heap.size w)
  clear hIn hac1 hab haa hm hn9 hF hlm
  go_enter Tryz.func5, Tryz.ntmps5
  go_wp2_with fail
  go_at_call 7
  refine HF.out.mono ?_
  rintro e w1 ⟨hr, hB1⟩
  have HB1 := hid hB1
  clear hB1
  rcases hr with rfl | ⟨rfl, h40, hsh⟩
  · go_wp2_with fail
    go_at_call 8
    refine (cVAlive w1).mono ?_
    rintro e wz ⟨rfl, hBz⟩
    have HBz := hid (HB1.out.trans (hBz.mono HB1.out.size))
    clear hBz
    go_wp2_with fail
    go_ret
    exact ⟨rfl, HBz.out⟩
  have HSH := hid hsh
  have H40 := hid h40
  clear hsh h40
  go_wp2_with fail
  go_at_call 9
  refine (cINew (l := []) (SlG.nil _ _ _) (fun y hy => by simp at hy) (fun y hy => by simp at hy) (by simp) n9 0 (r := 0) (newR_ok HN9.out).symm).mono ?_
  rintro e w2 ⟨hB2, hif⟩
  rw [if_pos rfl] at hif
  obtain ⟨x, b, b2, rfl, hI, hx, hb, hb2⟩ := hif
  have hI' : Ix w2 x b b2 0 n9 0 [] [] := hI
  have hNW := cNewV (B := Bd.mk1 w.heap.size) hI'
  have HB2 := hid (HB1.out.trans (hB2.mono HB1.out.size))
  have HLX := hid (show w.heap.size ≤ x ∧ w.heap.size ≤ b ∧ w.heap.size ≤ b2 by have := HB1.out.size; omega)
  clear hI hI' hx hb hb2 hB2
  go_wp2_with fail
  go_at_call 12
  refine hNW.mono ?_
  rintro e w3 ⟨q, rfl, hq, hV, hB3⟩
  have HB3 := hid (HB2.out.trans (hB3.mono HB2.out.size))
  have HTQ : Hid (∀ k, TV q x b b2 k → w.heap.size ≤ k) := hid (fun k hk => by
    obtain ⟨h1, h2, h3⟩ := HLX.out
    have h4 := HB2.out.size
    rcases hk with rfl | rfl | rfl | rfl <;> omega)
  have HV3 : Hid (Vo w3 (Bd.mk1 w.heap.size) q x b b2 (143 * 0) n9 st0 (.slice none 0 0) []) := hid ⟨⟨0, [], Nat.le_refl _, hV⟩, Nat.le_refl _, fun y hy => absurd hy (by simp), fun y hy => absurd hy (by simp), by decide, fun y hy => absurd hy (by simp), fun y hy => absurd hy (by simp), fun y hy => absurd hy (by simp)⟩
  clear hNW hq hV hB3 HB1 HB2 HLX
  go_wp2_with fail
  go_loopw [11] (fun i wr => ∃ (k : Nat) (s : Sd) (ws : List Ms) (wv : Value), k ≤ m ∧ i = .int .i64 k ∧ Hid (Vo wr (Bd.mk1 w.heap.size) q x b b2 (143 * k) n9 s wv ws) ∧ Hid (Iv s ws) ∧ Hid (ws.length ≤ k) ∧ Hid (Below w.heap.size w wr)) (fun i _ => m - (RowKit.intOf i).toNat)
  case atStart => exact ⟨0, st0, [], _, Nat.zero_le _, rfl, HV3, hid iv0, hid (Nat.le_refl _), HB3⟩
  case round =>
    obtain ⟨k, s, ws, wv, hk, rfl, HV, HIV, HWL, HB⟩ := hrel
    clear HV3 HB3
    by_cases hlt : k < m
    · have hlti : ((k : Int) < m) := by omega
      obtain rfl := HAP.out (by omega)
      obtain ⟨a, ha⟩ : ∃ a, ls[k]? = some a := ⟨ls[k]'(by rw [← HM.out]; exact hlt), List.getElem?_eq_getElem (by rw [← HM.out]; exact hlt)⟩
      have hbw := HAB.out (by omega)
      have HC : Hid (wr.rangeAt ab (ao + k * 20) a.m.list) := hid ((HAC.out.on HB.out fun _ => hbw) k a.m (at_mgs ha))
      have HAI := hid (HIN.out a (List.mem_of_getElem? ha))
      have HAS := hid (HSH.out a (List.mem_of_getElem? ha))
      clear ha hbw
      obtain ⟨p, hp⟩ : ∃ p, p = wr.heap.size := ⟨_, rfl⟩
      have HLT : Hid (∀ j, TV q x b b2 j → j < p) := hid (by rw [hp]; exact HV.out.lt)
      have HWT : Hid (∀ j, wv.ownBlock = some j → w.heap.size ≤ j ∧ j < p) := hid (fun j hj => by obtain ⟨n, ids, hn, hv⟩ := HV.out.ix; rw [hp]; exact hv.ow.lt j hj)
      have HP := hid hp
      clear hp
      go_wp2_with (first
        | ((with_reducible refine loadMl (x := ?lx1) (b := ?lb1) (o := ?lo1) a.m ?lg1 ?lp1 ?lxx1 ?lc1 ?_); (case lg1 => rfl); (case lp1 => rfl); (case lxx1 => rfl); (case lc1 => exact HC.out))
        | ((with_reducible refine storeM (x := ?sx2) (y := ?sy2) (b := wr.heap.size) a.m ?sg2 ?so2 ?sxx2 ?syy2 ?sc2 ?sh2); (case sg2 => rfl); (case so2 => rfl); (case sxx2 => rfl); (case syy2 => rfl); (case sc2 => exact roomMz wr); intro w4 hO hU; have HO4 : Hid (OM w4 p a.m) := hid (by rw [HP.out]; exact hO); have HB4 : Hid (Below wr.heap.size wr w4) := hid ((laid1_b wr zeroMc).trans (hU.below wr.heap.size (Nat.le_refl _))); have hWc := cWaiting (HV.out.on HB4.out) (by have := HWL.out; have := H40.out; omega); clear hO hU)
        | (go_at_call 14; refine hWc.mono ?_; rintro e w5 ⟨r13, rfl, ho5, hB5⟩; obtain ⟨a13, c13, n13, rfl, hn13⟩ := OwnG.asSlice ho5; have HO5 := hid ho5; have HN13 := hid (show n13 = ws.length by rw [hn13]; unfold mgs; rw [List.length_map]); have HB5 : Hid (Below wr.heap.size wr w5) := hid (HB4.out.trans (hB5.mono HB4.out.size)); have HM5 : Hid (OM w5 p a.m) := hid (heapB HO4.out hB5 (Array.getElem?_eq_some_iff.1 HO4.out).1); have HSZ := hid (show p < w4.heap.size from (Array.getElem?_eq_some_iff.1 HO4.out).1); clear ho5 hn13 hB5)
        | ((with_reducible refine loadM (x := ?lx3) (b := wr.heap.size) a.m ?lg3 ?lo3 ?lxx3 ?lc3 ?lh3); (case lg3 => rfl); (case lo3 => rfl); (case lxx3 => rfl); (case lc3 => rw [← HP.out]; exact HM5.out))
        | fail)
      have hA4 : a.short 900 := ⟨by have := HAS.out.1; omega, by have := HAS.out.2.1; omega, by have := HAS.out.2.2; omega⟩
      have hA5 : a.short 1024 := ⟨by have := HAS.out.1; omega, by have := HAS.out.2.1; omega, by have := HAS.out.2.2; omega⟩
      have HV5 := hid (HV.out.on HB5.out)
      have hH := cHandle (m := a) HV5.out (by have := HAS.out.1; have := HWL.out; have := H40.out; omega) HIV.out.gd HIV.out.wt (Nat.le_trans HB.out.size HB5.out.size) (by have := HWL.out; have := H40.out; omega) (HAI.out.1.on (HB.out.trans (HB5.out.mono HB.out.size))) hA4 HAI.out.1.lowB
      have HSM := hid (fun (o : Ms) ho => keep_sum (nd := n9) (o := o) HIV.out hA5 ho)
      have HPN := hid (handle_p (nd := n9) HIV.out hA5)
      have hln := handle_len n9 s ws a
      have han := handle_alen n9 s ws a
      obtain ⟨r, hr⟩ : ∃ r, r = handleF n9 s ws a := ⟨_, rfl⟩
      rw [← hr] at hH HSM HPN hln han
      have HHC := hid hH
      have HLN := hid hln
      have HAN := hid han
      clear hH hln han hr hA4 hA5 hWc
      go_at_call 13
      refine HHC.out.mono ?_
      intro e w6 hF6
      have HF6 := hid hF6
      obtain ⟨v14, os, wv6, rfl, hs6, hsh6, hat6, han6, hV6, hT6, hf6, hc6⟩ := hF6
      obtain ⟨a14, c14, n14, rfl, hn14⟩ := slice_of hsh6
      have hn40 : n14 ≤ 41 := by rw [hn14, ← List.length_map (f := Ms.an), han6]; have := HAN.out; have := HWL.out; have := H40.out; omega
      have hw40 : n13 ≤ 40 := by rw [HN13.out]; have := HWL.out; have := H40.out; omega
      have HS6 := hid hs6
      have HN14 := hid hn14
      have HAN6 := hid han6
      have HV6 := hid hV6
      have HM6 : Hid (OM w6 p a.m) := hid (HF6.out.beside HV5.out HM5.out HLT.out fun j hj => (HWT.out j hj).2)
      have HT6 : Hid (Tch (TW q x b b2 wv) w5 w6) := hid hT6
      have HO6 : Hid (OwnM w6 w4.heap.size (.slice a13 n13 c13) (mgs ws)) := hid (own_tch HO5.out hT6 fun k hk hs => by
        have h1 := (HO5.out.lt k hk).1
        have h2 := HSZ.out
        rcases hs with hs | hs
        · have := HLT.out k hs; omega
        · have := (HWT.out k hs).2; omega)
      have HB6 : Hid (Below w.heap.size w w6) := hid ((HB.out.trans (HB5.out.mono HB.out.size)).trans (hT6.below (fun k hk => by rcases hk with hk | hk; exact HTQ.out k hk; exact (HWT.out k hk).1) (Nat.le_trans HB.out.size HB5.out.size)))
      clear hs6 hsh6 hat6 han6 hV6 hT6 hf6 hc6 hn14 HHC HO5 HM5 HO4 HV5 HF6 HC
      go_wp2_with fail
      rw [← HP.out]
      go_loopg [15, 16, 17, 18, 19, 20, 21] n14 (fun gg s15 s16 s17 s18 s19 s20 s21 wr => ∃ (j' : Nat), j' ≤ n14 ∧ n14 - j' ≤ gg ∧ s15 = .int .i64 j' ∧ Hid (Below w6.heap.size w6 wr))
      case atStart => exact ⟨0, Nat.zero_le _, by omega, rfl, hid (Below.refl _ _)⟩
      case round =>
        obtain ⟨j, hj, hgg, rfl, HC6⟩ := hrel
        by_cases hjt : j < n14
        · have hjti : ((j : Int) < n14) := by omega
          obtain ⟨o, ho⟩ : ∃ o, os[j]? = some o := ⟨os[j]'(by rw [← HN14.out]; exact hjt), List.getElem?_eq_getElem (by rw [← HN14.out]; exact hjt)⟩
          have hom : o.an ∈ r.2.2 := by rw [← HAN6.out]; exact List.mem_map.2 ⟨o, List.mem_of_getElem? ho, rfl⟩
          obtain ⟨hoh, hok⟩ := HSM.out o hom
          have HOH := hid hoh
          have HOK := hid hok
          have hsl6 : SlM w6 (.slice a14 n14 c14) (mgs os) := HS6.out
          obtain ⟨bb, oo, cc, aa2, e0, ha0, hr0, hl0⟩ := hsl6
          have hlo : (mgs os).length = n14 := by unfold mgs; rw [List.length_map]; exact HN14.out.symm
          rw [hlo] at e0 ha0 hl0
          injection e0 with e01 e02 e03
          subst e01
          obtain rfl := ha0 (by omega)
          have HCO : Hid (wr.rangeAt bb (oo + j * 20) o.m.list) := hid (by have h1 := hr0 j o.m (at_mgs ho); exact fun i u hu => (HC6.out.cell (hl0 (by omega))).trans (h1 i u hu))
          clear ho hom hoh hok e02 e03 ha0 hr0 hl0 hlo
          have HM7 : Hid (OM wr p a.m) := hid (heapB HM6.out HC6.out (Array.getElem?_eq_some_iff.1 HM6.out).1)
          obtain ⟨sm, hsm⟩ : ∃ z, z = o.m.c.same a.m.c := ⟨_, rfl⟩
          have q1 := fun W => eqlC hsm.symm W
          have q2 := fun W => guardC .eql (.tmp 78) (.tmp 80) o.m.c a.m.c W
          have HSAME := hid hsm
          clear hsm
          obtain ⟨tt, htt⟩ : ∃ z, z = o.m.tt := ⟨_, rfl⟩
          obtain ⟨fr2, hfr2⟩ : ∃ z, z = a.m.fr := ⟨_, rfl⟩
          have HTT := hid htt
          have HFR2 := hid hfr2
          clear htt hfr2
          go_upto_region 19 with (first
            | ((with_reducible refine loadMl (x := ?lx4) (b := ?lb4) (o := ?lo4) o.m ?lg4 ?lp4 ?lxx4 ?lc4 ?_); (case lg4 => rfl); (case lp4 => rfl); (case lxx4 => rfl); (case lc4 => exact HCO.out))
            | ((with_reducible refine storeM (x := ?sx5) (y := ?sy5) (b := wr.heap.size) o.m ?sg5 ?so5 ?sxx5 ?syy5 ?sc5 ?sh5); (case sg5 => rfl); (case so5 => rfl); (case sxx5 => rfl); (case syy5 => rfl); (case sc5 => exact roomMz wr); intro w7 hO hU; have HO7 : Hid (OM w7 wr.heap.size o.m) := hid hO; have hb27 := (laid1_b wr zeroMc).trans (hU.below wr.heap.size (Nat.le_refl _)); have HB7 : Hid (Below w6.heap.size w6 w7) := hid (HC6.out.trans (hb27.mono HC6.out.size)); have HA7 : Hid (OM w7 p a.m) := hid (heapB HM7.out hb27 (Array.getElem?_eq_some_iff.1 HM7.out).1); clear hO hU hb27; have f2 : w7.cell? ⟨wr.heap.size, 2, none⟩ = some (.int .i64 tt) := (by rw [HTT.out]; exact HO7.out.cell (m := o.m) (j := 2) rfl); have f1 : w7.cell? ⟨p, 1, none⟩ = some (.int .i64 fr2) := (by rw [HFR2.out]; exact HA7.out.cell (m := a.m) (j := 1) rfl); have d0 : w7.cell? ⟨wr.heap.size, 4, none⟩ = some (.int .i64 o.m.c.i) := HO7.out.cell (m := o.m) (j := 4) rfl; have d1 : w7.cell? ⟨wr.heap.size, 5, none⟩ = some (.int .i64 o.m.c.k) := HO7.out.cell (m := o.m) (j := 5) rfl; have d2 : w7.cell? ⟨wr.heap.size, 6, none⟩ = some (.int .i64 o.m.c.s) := HO7.out.cell (m := o.m) (j := 6) rfl; have d3 : w7.cell? ⟨wr.heap.size, 7, none⟩ = some (.int .i64 o.m.c.t) := HO7.out.cell (m := o.m) (j := 7) rfl; have d4 : w7.cell? ⟨wr.heap.size, 8, none⟩ = some (.int .i64 o.m.c.d) := HO7.out.cell (m := o.m) (j := 8) rfl; have d5 : w7.cell? ⟨wr.heap.size, 9, none⟩ = some (.int .i64 o.m.c.p) := HO7.out.cell (m := o.m) (j := 9) rfl; have d6 : w7.cell? ⟨wr.heap.size, 10, none⟩ = some (.int .i64 o.m.c.q) := HO7.out.cell (m := o.m) (j := 10) rfl; have e0 : w7.cell? ⟨p, 4, none⟩ = some (.int .i64 a.m.c.i) := HA7.out.cell (m := a.m) (j := 4) rfl; have e1 : w7.cell? ⟨p, 5, none⟩ = some (.int .i64 a.m.c.k) := HA7.out.cell (m := a.m) (j := 5) rfl; have e2 : w7.cell? ⟨p, 6, none⟩ = some (.int .i64 a.m.c.s) := HA7.out.cell (m := a.m) (j := 6) rfl; have e3 : w7.cell? ⟨p, 7, none⟩ = some (.int .i64 a.m.c.t) := HA7.out.cell (m := a.m) (j := 7) rfl; have e4 : w7.cell? ⟨p, 8, none⟩ = some (.int .i64 a.m.c.d) := HA7.out.cell (m := a.m) (j := 8) rfl; have e5 : w7.cell? ⟨p, 9, none⟩ = some (.int .i64 a.m.c.p) := HA7.out.cell (m := a.m) (j := 9) rfl; have e6 : w7.cell? ⟨p, 10, none⟩ = some (.int .i64 a.m.c.q) := HA7.out.cell (m := a.m) (j := 10) rfl)
            | fail)
          go_frame
          go_cut [17] from 61 to 214 (fun u17 wx => ∃ bk : Bool, u17 = .bool bk ∧ Hid (bk = backB o.m a.m ∧ OM wx wr.heap.size o.m ∧ OM wx p a.m ∧ Below w6.heap.size w6 wx))
          case first =>
            by_cases htf : tt = fr2
            · have htfb : (tt == fr2) = true := by simpa using htf
              go_wp2_with fail
              go_meet
              exact ⟨_, rfl, hid ⟨by unfold backB; rw [← HTT.out, ← HFR2.out, ← HSAME.out]; rw [decide_eq_true htf]; rfl, HO7.out, HA7.out, HB7.out⟩⟩
            · have htfb : (tt == fr2) = false := by simpa using htf
              go_wp2_with fail
              go_meet
              exact ⟨_, rfl, hid ⟨by unfold backB; rw [← HTT.out, ← HFR2.out, ← HSAME.out]; rw [decide_eq_false htf]; rfl, HO7.out, HA7.out, HB7.out⟩⟩
          obtain ⟨bk, rfl, HH⟩ := hcut
          have HBK := hid HH.out.1
          have HO8 := hid HH.out.2.1
          have HA8 := hid HH.out.2.2.1
          have HB8 := hid HH.out.2.2.2
          obtain ⟨p2, hp2⟩ : ∃ p2, p2 = wr.heap.size := ⟨_, rfl⟩
          rw [← hp2] at HO8 ⊢
          have HP2 := hid (show w6.heap.size ≤ p2 by rw [hp2]; exact HC6.out.size)
          clear HH hp2 HO7 HA7 HB7 HCO HM7 q1 q2 HSAME HTT HFR2 f1 f2 d0 e0 d1 e1 d2 e2 d3 e3 d4 e4 d5 e5 d6 e6
          go_wp2_with fail
          go_loopg [17, 18] n13 (fun gg s17 s18 wr => ∃ (i : Nat) (bk2 : Bool), i ≤ n13 ∧ n13 - i ≤ gg ∧ s17 = .bool bk2 ∧ s18 = .int .i64 i ∧ Hid (bk2 = (backB o.m a.m || (mgs (ws.take i)).any (backB o.m))) ∧ Hid (Below wc.heap.size wc wr))
          case atStart => exact ⟨0, bk, Nat.zero_le _, by omega, rfl, rfl, hid (by rw [HBK.out]; simp [mgs]), hid (Below.refl _ _)⟩
          case round =>
            obtain ⟨i, bk2, hi, hgg2, rfl, rfl, HBK2, HC9⟩ := hrel
            have HB9 : Hid (Below w6.heap.size w6 wr) := hid (HB8.out.trans (HC9.out.mono HB8.out.size))
            by_cases hin : i < n13
            · as_aux_lemma =>
                have hini : ((i : Int) < n13) := by omega
                obtain ⟨x9, hx9⟩ : ∃ x, ws[i]? = some x := ⟨ws[i]'(by rw [← HN13.out]; exact hin), List.getElem?_eq_getElem (by rw [← HN13.out]; exact hin)⟩
                have hsl : SlM w6 (.slice a13 n13 c13) (mgs ws) := OwnG.slG kM HO6.out
                obtain ⟨b9, o9, cc9, aa9, e0, ha0, hr0, hl0⟩ := hsl
                have hlo : (mgs ws).length = n13 := by unfold mgs; rw [List.length_map]; exact HN13.out.symm
                rw [hlo] at e0 ha0 hl0
                injection e0 with e01 e02 e03
                subst e01
                obtain rfl := ha0 (by omega)
                have HCX : Hid (wr.rangeAt b9 (o9 + i * 20) x9.m.list) := hid (by have h1 := hr0 i x9.m (at_mgs hx9); exact fun i u hu => (HB9.out.cell (hl0 (by omega))).trans (h1 i u hu))
                have HX9 := hid hx9
                clear hx9 e02 e03 ha0 hr0 hl0 hlo
                have hnx : ∀ (bb : Bool), bb = (backB o.m a.m || (mgs (ws.take i)).any (backB o.m)) → (bb || backB o.m x9.m) = (backB o.m a.m || (mgs (ws.take (i + 1))).any (backB o.m)) := fun bb hbb => by
                  rw [hbb, List.take_add_one, HX9.out]; simp [mgs, Bool.or_assoc]
                have HNX := hid hnx
                clear hnx
                rcases bk2 with _ | _
                · obtain ⟨sm, hsm⟩ : ∃ z, z = o.m.c.same x9.m.c := ⟨_, rfl⟩
                  have q1 := fun W => eqlC hsm.symm W
                  have q2 := fun W => guardC .eql (.tmp 101) (.tmp 106) o.m.c x9.m.c W
                  have HSAME := hid hsm
                  clear hsm
                  obtain ⟨tt, htt⟩ : ∃ z, z = o.m.tt := ⟨_, rfl⟩
                  obtain ⟨fr2, hfr2⟩ : ∃ z, z = x9.m.fr := ⟨_, rfl⟩
                  have HTT := hid htt
                  have HFR2 := hid hfr2
                  clear htt hfr2
                  have HO9 : Hid (OM wr p2 o.m) := hid (heapB HO8.out HC9.out (Array.getElem?_eq_some_iff.1 HO8.out).1)
                  have f2 : wr.cell? ⟨p2, 2, none⟩ = some (.int .i64 tt) := by rw [HTT.out]; exact HO9.out.cell (m := o.m) (j := 2) rfl
                  have f1 : wr.cell? ⟨b9, o9 + i * 20 + 1, none⟩ = some (.int .i64 fr2) := by rw [HFR2.out]; exact HCX.out 1 (.int .i64 x9.m.fr) rfl
                  have d0 : wr.cell? ⟨p2, 4, none⟩ = some (.int .i64 o.m.c.i) := HO9.out.cell (m := o.m) (j := 4) rfl
                  have d1 : wr.cell? ⟨p2, 5, none⟩ = some (.int .i64 o.m.c.k) := HO9.out.cell (m := o.m) (j := 5) rfl
                  have d2 : wr.cell? ⟨p2, 6, none⟩ = some (.int .i64 o.m.c.s) := HO9.out.cell (m := o.m) (j := 6) rfl
                  have d3 : wr.cell? ⟨p2, 7, none⟩ = some (.int .i64 o.m.c.t) := HO9.out.cell (m := o.m) (j := 7) rfl
                  have d4 : wr.cell? ⟨p2, 8, none⟩ = some (.int .i64 o.m.c.d) := HO9.out.cell (m := o.m) (j := 8) rfl
                  have d5 : wr.cell? ⟨p2, 9, none⟩ = some (.int .i64 o.m.c.p) := HO9.out.cell (m := o.m) (j := 9) rfl
                  have d6 : wr.cell? ⟨p2, 10, none⟩ = some (.int .i64 o.m.c.q) := HO9.out.cell (m := o.m) (j := 10) rfl
                  have e0 : wr.cell? ⟨b9, o9 + i * 20 + 4, none⟩ = some (.int .i64 x9.m.c.i) := HCX.out 4 (.int .i64 x9.m.c.i) rfl
                  have e1 : wr.cell? ⟨b9, o9 + i * 20 + 5, none⟩ = some (.int .i64 x9.m.c.k) := HCX.out 5 (.int .i64 x9.m.c.k) rfl
                  have e2 : wr.cell? ⟨b9, o9 + i * 20 + 6, none⟩ = some (.int .i64 x9.m.c.s) := HCX.out 6 (.int .i64 x9.m.c.s) rfl
                  have e3 : wr.cell? ⟨b9, o9 + i * 20 + 7, none⟩ = some (.int .i64 x9.m.c.t) := HCX.out 7 (.int .i64 x9.m.c.t) rfl
                  have e4 : wr.cell? ⟨b9, o9 + i * 20 + 8, none⟩ = some (.int .i64 x9.m.c.d) := HCX.out 8 (.int .i64 x9.m.c.d) rfl
                  have e5 : wr.cell? ⟨b9, o9 + i * 20 + 9, none⟩ = some (.int .i64 x9.m.c.p) := HCX.out 9 (.int .i64 x9.m.c.p) rfl
                  have e6 : wr.cell? ⟨b9, o9 + i * 20 + 10, none⟩ = some (.int .i64 x9.m.c.q) := HCX.out 10 (.int .i64 x9.m.c.q) rfl
                  by_cases htf : tt = fr2
                  · have htfb : (tt == fr2) = true := by simpa using htf
                    have HTF := hid htf
                    clear htf
                    go_wp2_with fail
                    go_quiet (fail)
                    go_wp2_with fail
                    go_roundg (n13 - (i + 1))
                    case measure => omega
                    case rel => exact ⟨i + 1, sm, by omega, by omega, rfl, by go_num, hid (by rw [← HNX.out false HBK2.out]; unfold backB; rw [← HTT.out, ← HFR2.out, ← HSAME.out, decide_eq_true HTF.out]; simp), hid (Below.drewN' HC9.out nq)⟩
                  · have htfb : (tt == fr2) = false := by simpa using htf
                    have HTF := hid htf
                    clear htf
                    go_wp2_with fail
                    go_quiet (fail)
                    go_wp2_with fail
                    go_roundg (n13 - (i + 1))
                    case measure => omega
                    case rel => exact ⟨i + 1, false, by omega, by omega, rfl, by go_num, hid (by rw [← HNX.out false HBK2.out]; unfold backB; rw [← HTT.out, ← HFR2.out, decide_eq_false HTF.out]; simp), hid (Below.drewN' HC9.out nq)⟩
                · go_wp2_with fail
                  go_quiet (fail)
                  go_wp2_with fail
                  go_roundg (n13 - (i + 1))
                  case measure => omega
                  case rel => exact ⟨i + 1, true, by omega, by omega, rfl, by go_num, hid (by rw [← HNX.out true HBK2.out]; simp), hid (Below.drewN' HC9.out nq)⟩
            · have hini : ¬ ((i : Int) < n13) := by omega
              have hb : bk2 = true := by
                rw [HBK2.out, show i = ws.length by rw [← HN13.out]; omega, List.take_length]; exact HOK.out.bk
              subst hb
              go_upto_region 24 with fail
              have HV9 := hid (HV6.out.on HB9.out)
              have HWF : Hid ((Lit.int .i64 o.m.c.i).wf = true) := hid (by have h := lkE_mem HOH.out; have := ok_wf (right_ok (HPN.out.iv.gd _ h.1)); rw [show (lkE r.1.xs o.m.c.i).e.c.i = o.m.c.i from h.2] at this; exact this)
              have HO9 : Hid (OM wr p2 o.m) := hid (heapB HO8.out HC9.out (Array.getElem?_eq_some_iff.1 HO8.out).1)
              have HA9 : Hid (OM wr p a.m) := hid (heapB HA8.out HC9.out (Array.getElem?_eq_some_iff.1 HA8.out).1)
              have HFG : Hid (∀ W, Below wr.heap.size wr W → W.cell? ⟨q, 0, none⟩ = some (ptr x) ∧ W.cell? ⟨p2, 4, none⟩ = some (.int .i64 o.m.c.i)) := hid fun W hW => ⟨(HV9.out.on hW).cell0, (show OM W p2 o.m from heapB HO9.out hW (Array.getElem?_eq_some_iff.1 HO9.out).1).cell rfl⟩
              obtain ⟨ev, hev⟩ : ∃ z, z = lookE r.1.xs o.m.c.i := ⟨_, rfl⟩
              obtain ⟨hs9, hhs⟩ : ∃ z, z = hasE r.1.xs o.m.c.i := ⟨_, rfl⟩
              have HGC : Hid (∀ W, Below wr.heap.size wr W → Calls Tryz.prog 21 #[ptr x, .int .i64 o.m.c.i] W fun e w' => e = .returned (.tuple #[.agg ev.arr, .bool hs9]) ∧ Below W.heap.size W w') := hid fun W hW => by rw [hev, hhs]; exact cGetV (HV9.out.on hW) HWF.out
              have HEV := hid hev
              clear hev hhs
              go_cut [19, 20] from 61 to 214 (fun u19 u20 wx => ∃ p3 : Nat, u19 = .pointer (some ⟨p3, 0, none⟩) ∧ u20 = .bool hs9 ∧ Hid (Below wr.heap.size wr wx ∧ Ob wx p3 67 ev))
              case first =>
                as_aux_lemma =>
                  refine rh_start (S := fun W => Below wr.heap.size wr W) (n := 14) (listed := #[false, false, false, false, false, false, false, false, false, false, false, false, false, false]) (by kernel_rfl) rfl rfl ?_
                  have HS0 : Hid (Below wr.heap.size wr wr.drew) := hid (belowDrew (Below.refl _ wr))
                  generalize wr.drew = wd at HS0 ⊢
                  refine rh_takeS (i := 0) (o := ?o6) (v := ?v6) (listed' := ?l6) (a' := ?a6) ?hi6 (by kernel_rfl) (by kernel_rfl) (by kernel_rfl) ?hq6 ?hl6 ?hw6 ?hv6 ?ha6 HS0.out ?hh6
                  case hi6 => (simp only [List.getElem?_toArray, List.getElem?_cons_zero]; try rfl)
                  case hq6 => exact fun _ _ _ h => h
                  case hl6 => (simp only [List.setIfInBounds_toArray, List.set_cons_zero]; try rfl)
                  case hw6 => rfl
                  case hv6 =>
                    intro W hW
                    obtain ⟨k0, k1⟩ := HFG.out W hW
                    go_simp
                    try with_reducible rfl
                  case ha6 => (simp only [Act.put, List.setIfInBounds_toArray, List.set_cons_succ, List.set_cons_zero]; try rfl)
                  refine rh_takeS (i := 1) (o := ?o7) (v := ?v7) (listed' := ?l7) (a' := ?a7) ?hi7 (by kernel_rfl) (by kernel_rfl) (by kernel_rfl) ?hq7 ?hl7 ?hw7 ?hv7 ?ha7 HS0.out ?hh7
                  case hi7 => (simp only [List.getElem?_toArray, List.getElem?_cons_succ, List.getElem?_cons_zero]; try rfl)
                  case hq7 => exact fun _ _ _ h => h
                  case hl7 => (simp only [List.setIfInBounds_toArray, List.set_cons_succ, List.set_cons_zero]; try rfl)
                  case hw7 => rfl
                  case hv7 =>
                    intro W hW
                    obtain ⟨k0, k1⟩ := HFG.out W hW
                    go_simp
                    try with_reducible rfl
                  case ha7 => (simp only [Act.put, List.setIfInBounds_toArray, List.set_cons_succ, List.set_cons_zero]; try rfl)
                  refine rh_takeS (i := 2) (o := ?o8) (v := ?v8) (listed' := ?l8) (a' := ?a8) ?hi8 (by kernel_rfl) (by kernel_rfl) (by kernel_rfl) ?hq8 ?hl8 ?hw8 ?hv8 ?ha8 HS0.out ?hh8
                  case hi8 => (simp only [List.getElem?_toArray, List.getElem?_cons_succ, List.getElem?_cons_zero]; try rfl)
                  case hq8 => exact fun _ _ _ h => h
                  case hl8 => (simp only [List.setIfInBounds_toArray, List.set_cons_succ, List.set_cons_zero]; try rfl)
                  case hw8 => rfl
                  case hv8 =>
                    intro W hW
                    obtain ⟨k0, k1⟩ := HFG.out W hW
                    go_simp
                    try with_reducible rfl
                  case ha8 => (simp only [Act.put, List.setIfInBounds_toArray, List.set_cons_succ, List.set_cons_zero]; try rfl)
                  refine rh_takeS (i := 3) (o := ?o9) (v := ?v9) (listed' := ?l9) (a' := ?a9) ?hi9 (by kernel_rfl) (by kernel_rfl) (by kernel_rfl) ?hq9 ?hl9 ?hw9 ?hv9 ?ha9 HS0.out ?hh9
                  case hi9 => (simp only [List.getElem?_toArray, List.getElem?_cons_succ, List.getElem?_cons_zero]; try rfl)
                  case hq9 => exact fun _ _ _ h => h
                  case hl9 => (simp only [List.setIfInBounds_toArray, List.set_cons_succ, List.set_cons_zero]; try rfl)
                  case hw9 => rfl
                  case hv9 =>
                    intro W hW
                    obtain ⟨k0, k1⟩ := HFG.out W hW
                    go_simp
                    try with_reducible rfl
                  case ha9 => (simp only [Act.put, List.setIfInBounds_toArray, List.set_cons_succ, List.set_cons_zero]; try rfl)
                  refine rh_takeS (i := 4) (o := ?o10) (v := ?v10) (listed' := ?l10) (a' := ?a10) ?hi10 (by kernel_rfl) (by kernel_rfl) (by kernel_rfl) ?hq10 ?hl10 ?hw10 ?hv10 ?ha10 HS0.out ?hh10
                  case hi10 => (simp only [List.getElem?_toArray, List.getElem?_cons_succ, List.getElem?_cons_zero]; try rfl)
                  case hq10 => exact fun _ _ _ h => h
                  case hl10 => (simp only [List.setIfInBounds_toArray, List.set_cons_succ, List.set_cons_zero]; try rfl)
                  case hw10 => rfl
                  case hv10 =>
                    intro W hW
                    obtain ⟨k0, k1⟩ := HFG.out W hW
                    go_simp
                    try with_reducible rfl
                  case ha10 => (simp only [Act.put, List.setIfInBounds_toArray, List.set_cons_succ, List.set_cons_zero]; try rfl)
                  refine rh_takeS (i := 5) (o := ?o11) (v := ?v11) (listed' := ?l11) (a' := ?a11) ?hi11 (by kernel_rfl) (by kernel_rfl) (by kernel_rfl) ?hq11 ?hl11 ?hw11 ?hv11 ?ha11 HS0.out ?hh11
                  case hi11 => (simp only [List.getElem?_toArray, List.getElem?_cons_succ, List.getElem?_cons_zero]; try rfl)
                  case hq11 => exact fun _ _ _ h => h
                  case hl11 => (simp only [List.setIfInBounds_toArray, List.set_cons_succ, List.set_cons_zero]; try rfl)
                  case hw11 => rfl
                  case hv11 =>
                    intro W hW
                    obtain ⟨k0, k1⟩ := HFG.out W hW
                    go_simp
                    try with_reducible rfl
                  case ha11 => (simp only [Act.put, List.setIfInBounds_toArray, List.set_cons_succ, List.set_cons_zero]; try rfl)
                  refine rh_takeS (i := 6) (o := ?o12) (v := ?v12) (listed' := ?l12) (a' := ?a12) ?hi12 (by kernel_rfl) (by kernel_rfl) (by kernel_rfl) ?hq12 ?hl12 ?hw12 ?hv12 ?ha12 HS0.out ?hh12
                  case hi12 => (simp only [List.getElem?_toArray, List.getElem?_cons_succ, List.getElem?_cons_zero]; try rfl)
                  case hq12 => exact fun _ _ _ h => h
                  case hl12 => (simp only [List.setIfInBounds_toArray, List.set_cons_succ, List.set_cons_zero]; try rfl)
                  case hw12 => rfl
                  case hv12 =>
                    intro W hW
                    obtain ⟨k0, k1⟩ := HFG.out W hW
                    go_simp
                    try with_reducible rfl
                  case ha12 => (simp only [Act.put, List.setIfInBounds_toArray, List.set_cons_succ, List.set_cons_zero]; try rfl)
                  refine wpAnyH_ready (rs := [7, 11]) (by kernel_rfl) (by simp) ?_
                  refine rh_consW (i := 7) (o := ?o13) (listed' := ?l13) ?hi13 ?hl13 ?hg13 ?hh13 ?hs13
                  case hi13 => (simp only [List.getElem?_toArray, List.getElem?_cons_succ, List.getElem?_cons_zero]; try rfl)
                  case hl13 => (simp only [List.setIfInBounds_toArray, List.set_cons_succ, List.set_cons_zero]; try rfl)
                  case hg13 => rfl
                  case hh13 =>
                    intro K hK
                    go_simp
                    refine (HGC.out _ HS0.out).mono ?_
                    rintro z wa1 ⟨rfl, hB⟩
                    have HS1 := hid (HS0.out.trans (hB.mono HS0.out.size))
                    refine hK.out _ _ HS1.out ?_
                    clear hK K
                    refine rh_takeS (i := 8) (o := ?o14) (v := ?v14) (listed' := ?l14) (a' := ?a14) ?hi14 (by kernel_rfl) (by kernel_rfl) (by kernel_rfl) ?hq14 ?hl14 ?hw14 ?hv14 ?ha14 HS1.out ?hh14
                    case hi14 => (simp only [List.getElem?_toArray, List.getElem?_cons_succ, List.getElem?_cons_zero]; try rfl)
                    case hq14 => exact fun _ _ _ h => h
                    case hl14 => (simp only [List.setIfInBounds_toArray, List.set_cons_succ, List.set_cons_zero]; try rfl)
                    case hw14 => rfl
                    case hv14 =>
                      intro W hW
                      skip
                      go_simp
                      try with_reducible rfl
                    case ha14 => (simp only [Act.put, List.setIfInBounds_toArray, List.set_cons_succ, List.set_cons_zero]; try rfl)
                    refine rh_takeS (i := 9) (o := ?o15) (v := ?v15) (listed' := ?l15) (a' := ?a15) ?hi15 (by kernel_rfl) (by kernel_rfl) (by kernel_rfl) ?hq15 ?hl15 ?hw15 ?hv15 ?ha15 HS1.out ?hh15
                    case hi15 => (simp only [List.getElem?_toArray, List.getElem?_cons_succ, List.getElem?_cons_zero]; try rfl)
                    case hq15 => exact fun _ _ _ h => h
                    case hl15 => (simp only [List.setIfInBounds_toArray, List.set_cons_succ, List.set_cons_zero]; try rfl)
                    case hw15 => rfl
                    case hv15 =>
                      intro W hW
                      skip
                      go_simp
                      try with_reducible rfl
                    case ha15 => (simp only [Act.put, List.setIfInBounds_toArray, List.set_cons_succ, List.set_cons_zero]; try rfl)
                    refine rh_takeS (i := 10) (o := ?o16) (v := ?v16) (listed' := ?l16) (a' := ?a16) ?hi16 (by kernel_rfl) (by kernel_rfl) (by kernel_rfl) ?hq16 ?hl16 ?hw16 ?hv16 ?ha16 HS1.out ?hh16
                    case hi16 => (simp only [List.getElem?_toArray, List.getElem?_cons_succ, List.getElem?_cons_zero]; try rfl)
                    case hq16 => exact fun _ _ _ h => h
                    case hl16 => (simp only [List.setIfInBounds_toArray, List.set_cons_succ, List.set_cons_zero]; try rfl)
                    case hw16 => rfl
                    case hv16 =>
                      intro W hW
                      skip
                      go_simp
                      try with_reducible rfl
                    case ha16 => (simp only [Act.put, List.setIfInBounds_toArray, List.set_cons_succ, List.set_cons_zero]; try rfl)
                    refine wpAnyH_ready (rs := [11]) (by kernel_rfl) (by simp) ?_
                    refine rh_cons (i := 11) (o := ?o17) (listed' := ?l17) ?hi17 ?hl17 ?hg17 ?hh17 ?hs17
                    case hi17 => (simp only [List.getElem?_toArray, List.getElem?_cons_succ, List.getElem?_cons_zero]; try rfl)
                    case hl17 => (simp only [List.setIfInBounds_toArray, List.set_cons_succ, List.set_cons_zero]; try rfl)
                    case hg17 => rfl
                    case hs17 => exact AllReadyH.nil
                    intro K hK
                    go_simp
                    have HS2 : Hid (Below wr.heap.size wr (wa1.alloc zeroEc)) := hid (HS1.out.trans ((laid1_b wa1 zeroEc).mono HS1.out.size))
                    have HZ2 : Hid ((wa1.alloc zeroEc).heap[wa1.heap.size]? = some zeroEc) := hid (laid1_0 wa1 zeroEc)
                    have HLB2 : Hid (wr.heap.size ≤ wa1.heap.size) := hid HS1.out.size
                    refine hK.out _ _ HS2.out ?_
                    clear hK K
                    refine wpAnyH_ready (rs := [12]) (by kernel_rfl) (by simp) ?_
                    refine rh_storeN (i := 12) (o := ?o18) (listed' := ?l18) (x := ?x18) (y := ?y18) (b := wa1.heap.size) (T := 67) (ev).arr (infoEc' (ev)) (Ev.one (ev)) ?hi18 ?hl18 ?hg18 ?ho18 ?hx18 ?hy18 ?hd18 HZ2.out (by rw [Ev.size]; rfl) ?hh18 ?hs18
                    case hi18 => (simp only [List.getElem?_toArray, List.getElem?_cons_succ, List.getElem?_cons_zero]; try rfl)
                    case hl18 => (simp only [List.setIfInBounds_toArray, List.set_cons_succ, List.set_cons_zero]; try rfl)
                    case hg18 => rfl
                    case ho18 => rfl
                    case hx18 => rfl
                    case hy18 => rfl
                    case hd18 => rfl
                    case hs18 => exact AllReadyH.nil
                    intro wq hO hU
                    have HSq := hid (HS2.out.trans (hU.below _ HLB2.out))
                    refine ⟨HSq.out, ?_⟩
                    refine rh_takeS (i := 13) (o := ?o19) (v := ?v19) (listed' := ?l19) (a' := ?a19) ?hi19 (by kernel_rfl) (by kernel_rfl) (by kernel_rfl) ?hq19 ?hl19 ?hw19 ?hv19 ?ha19 HSq.out ?hh19
                    case hi19 => (simp only [List.getElem?_toArray, List.getElem?_cons_succ, List.getElem?_cons_zero]; try rfl)
                    case hq19 => exact fun _ _ _ h => h
                    case hl19 => (simp only [List.setIfInBounds_toArray, List.set_cons_succ, List.set_cons_zero]; try rfl)
                    case hw19 => rfl
                    case hv19 =>
                      intro W hW
                      skip
                      go_simp
                      try with_reducible rfl
                    case ha19 => (simp only [Act.put, List.setIfInBounds_toArray, List.set_cons_succ, List.set_cons_zero]; try rfl)
                    refine wpAnyH_done (by kernel_rfl) ?_ _
                    go_wp2_with fail
                    go_meet
                    exact ⟨_, rfl, rfl, hid ⟨HSq.out, hO⟩⟩
                  refine rh_cons (i := 11) (o := ?o20) (listed' := ?l20) ?hi20 ?hl20 ?hg20 ?hh20 ?hs20
                  case hi20 => (simp only [List.getElem?_toArray, List.getElem?_cons_succ, List.getElem?_cons_zero]; try rfl)
                  case hl20 => (simp only [List.setIfInBounds_toArray, List.set_cons_succ, List.set_cons_zero]; try rfl)
                  case hg20 => rfl
                  case hs20 => exact AllReadyH.nil
                  intro K hK
                  go_simp
                  have HS3 : Hid (Below wr.heap.size wr (wd.alloc zeroEc)) := hid (HS0.out.trans ((laid1_b wd zeroEc).mono HS0.out.size))
                  have HZ3 : Hid ((wd.alloc zeroEc).heap[wd.heap.size]? = some zeroEc) := hid (laid1_0 wd zeroEc)
                  have HLB3 : Hid (wr.heap.size ≤ wd.heap.size) := hid HS0.out.size
                  refine hK.out _ _ HS3.out ?_
                  clear hK K
                  refine wpAnyH_ready (rs := [7]) (by kernel_rfl) (by simp) ?_
                  refine rh_cons (i := 7) (o := ?o21) (listed' := ?l21) ?hi21 ?hl21 ?hg21 ?hh21 ?hs21
                  case hi21 => (simp only [List.getElem?_toArray, List.getElem?_cons_succ, List.getElem?_cons_zero]; try rfl)
                  case hl21 => (simp only [List.setIfInBounds_toArray, List.set_cons_succ, List.set_cons_zero]; try rfl)
                  case hg21 => rfl
                  case hs21 => exact AllReadyH.nil
                  intro K hK
                  go_simp
                  refine (HGC.out _ HS3.out).mono ?_
                  rintro z wa4 ⟨rfl, hB⟩
                  have HS4 := hid (HS3.out.trans (hB.mono HS3.out.size))
                  have HZ4 := hid (heapB HZ3.out hB (by simp))
                  refine hK.out _ _ HS4.out ?_
                  clear hK K
                  refine rh_takeS (i := 8) (o := ?o22) (v := ?v22) (listed' := ?l22) (a' := ?a22) ?hi22 (by kernel_rfl) (by kernel_rfl) (by kernel_rfl) ?hq22 ?hl22 ?hw22 ?hv22 ?ha22 HS4.out ?hh22
                  case hi22 => (simp only [List.getElem?_toArray, List.getElem?_cons_succ, List.getElem?_cons_zero]; try rfl)
                  case hq22 => exact fun _ _ _ h => h
                  case hl22 => (simp only [List.setIfInBounds_toArray, List.set_cons_succ, List.set_cons_zero]; try rfl)
                  case hw22 => rfl
                  case hv22 =>
                    intro W hW
                    skip
                    go_simp
                    try with_reducible rfl
                  case ha22 => (simp only [Act.put, List.setIfInBounds_toArray, List.set_cons_succ, List.set_cons_zero]; try rfl)
                  refine rh_takeS (i := 9) (o := ?o23) (v := ?v23) (listed' := ?l23) (a' := ?a23) ?hi23 (by kernel_rfl) (by kernel_rfl) (by kernel_rfl) ?hq23 ?hl23 ?hw23 ?hv23 ?ha23 HS4.out ?hh23
                  case hi23 => (simp only [List.getElem?_toArray, List.getElem?_cons_succ, List.getElem?_cons_zero]; try rfl)
                  case hq23 => exact fun _ _ _ h => h
                  case hl23 => (simp only [List.setIfInBounds_toArray, List.set_cons_succ, List.set_cons_zero]; try rfl)
                  case hw23 => rfl
                  case hv23 =>
                    intro W hW
                    skip
                    go_simp
                    try with_reducible rfl
                  case ha23 => (simp only [Act.put, List.setIfInBounds_toArray, List.set_cons_succ, List.set_cons_zero]; try rfl)
                  refine rh_takeS (i := 10) (o := ?o24) (v := ?v24) (listed' := ?l24) (a' := ?a24) ?hi24 (by kernel_rfl) (by kernel_rfl) (by kernel_rfl) ?hq24 ?hl24 ?hw24 ?hv24 ?ha24 HS4.out ?hh24
                  case hi24 => (simp only [List.getElem?_toArray, List.getElem?_cons_succ, List.getElem?_cons_zero]; try rfl)
                  case hq24 => exact fun _ _ _ h => h
                  case hl24 => (simp only [List.setIfInBounds_toArray, List.set_cons_succ, List.set_cons_zero]; try rfl)
                  case hw24 => rfl
                  case hv24 =>
                    intro W hW
                    skip
                    go_simp
                    try with_reducible rfl
                  case ha24 => (simp only [Act.put, List.setIfInBounds_toArray, List.set_cons_succ, List.set_cons_zero]; try rfl)
                  refine wpAnyH_ready (rs := [12]) (by kernel_rfl) (by simp) ?_
                  refine rh_storeN (i := 12) (o := ?o25) (listed' := ?l25) (x := ?x25) (y := ?y25) (b := wd.heap.size) (T := 67) (ev).arr (infoEc' (ev)) (Ev.one (ev)) ?hi25 ?hl25 ?hg25 ?ho25 ?hx25 ?hy25 ?hd25 HZ4.out (by rw [Ev.size]; rfl) ?hh25 ?hs25
                  case hi25 => (simp only [List.getElem?_toArray, List.getElem?_cons_succ, List.getElem?_cons_zero]; try rfl)
                  case hl25 => (simp only [List.setIfInBounds_toArray, List.set_cons_succ, List.set_cons_zero]; try rfl)
                  case hg25 => rfl
                  case ho25 => rfl
                  case hx25 => rfl
                  case hy25 => rfl
                  case hd25 => rfl
                  case hs25 => exact AllReadyH.nil
                  intro wq hO hU
                  have HSq := hid (HS4.out.trans (hU.below _ HLB3.out))
                  refine ⟨HSq.out, ?_⟩
                  refine rh_takeS (i := 13) (o := ?o26) (v := ?v26) (listed' := ?l26) (a' := ?a26) ?hi26 (by kernel_rfl) (by kernel_rfl) (by kernel_rfl) ?hq26 ?hl26 ?hw26 ?hv26 ?ha26 HSq.out ?hh26
                  case hi26 => (simp only [List.getElem?_toArray, List.getElem?_cons_succ, List.getElem?_cons_zero]; try rfl)
                  case hq26 => exact fun _ _ _ h => h
                  case hl26 => (simp only [List.setIfInBounds_toArray, List.set_cons_succ, List.set_cons_zero]; try rfl)
                  case hw26 => rfl
                  case hv26 =>
                    intro W hW
                    skip
                    go_simp
                    try with_reducible rfl
                  case ha26 => (simp only [Act.put, List.setIfInBounds_toArray, List.set_cons_succ, List.set_cons_zero]; try rfl)
                  refine wpAnyH_done (by kernel_rfl) ?_ _
                  go_wp2_with fail
                  go_meet
                  exact ⟨_, rfl, rfl, hid ⟨HSq.out, hO⟩⟩
              obtain ⟨p3, rfl, rfl, HH⟩ := hcut
              have HB10 := hid HH.out.1
              have HE10 := hid HH.out.2
              clear HH HFG HGC
              have HO10 : Hid (OM wc p2 o.m) := hid (heapB HO9.out HB10.out (Array.getElem?_eq_some_iff.1 HO9.out).1)
              have HA10 : Hid (OM wc p a.m) := hid (heapB HA9.out HB10.out (Array.getElem?_eq_some_iff.1 HA9.out).1)
              have hmem := lkE_mem HOH.out
              have hyat : (lkE r.1.xs o.m.c.i).at wc := ((HV9.out.all _ hmem.1).on HB10.out)
              have hysh := HV9.out.sh _ hmem.1
              have hyr : (lkE r.1.xs o.m.c.i).right = true := HPN.out.iv.gd _ hmem.1
              have hye : (lkE r.1.xs o.m.c.i).e = ev := (lkE_e _ _).trans HEV.out.symm
              generalize lkE r.1.xs o.m.c.i = y at hyat hysh hyr hye hmem
              obtain ⟨ye, yf, ya, yv⟩ := y
              obtain rfl : ye = ev := hye
              have HRC : Hid (∀ W, Below wc.heap.size wc W → Calls Tryz.prog 25 #[.agg ye.arr] W fun e w' => e = .returned (.bool true) ∧ Below W.heap.size W w') := hid fun W hW => by
                have h := rRightE (w := W) (e := ye) (hyat.1.on hW) (hyat.2.1.on hW) (hyat.2.2.on hW) hysh.1 hysh.2.1 hysh.2.2
                rw [show rightE ye yf ya yv = true from hyr] at h
                exact h
              have hK := HOK.out
              rw [← HEV.out] at hK
              have HKA := hid hK
              clear hK hmem hyat hysh hyr HEV HOK
              obtain ⟨so, hso⟩ : ∃ z, z = o.m.so := ⟨_, rfl⟩
              obtain ⟨bal, hbal⟩ : ∃ z, z = o.m.bal := ⟨_, rfl⟩
              obtain ⟨ovt, hovt⟩ : ∃ z, z = o.m.vt := ⟨_, rfl⟩
              obtain ⟨oab, hoab⟩ : ∃ z, z = o.m.ab := ⟨_, rfl⟩
              obtain ⟨avt, havt⟩ : ∃ z, z = a.m.vt := ⟨_, rfl⟩
              obtain ⟨pr, hpr⟩ : ∃ z, z = ye.pr := ⟨_, rfl⟩
              obtain ⟨lo, hlo9⟩ : ∃ z, z = ye.lo := ⟨_, rfl⟩
              obtain ⟨hi9, hhi⟩ : ∃ z, z = ye.hi := ⟨_, rfl⟩
              obtain ⟨eab, heab⟩ : ∃ z, z = ye.ab := ⟨_, rfl⟩
              obtain ⟨ext, hext⟩ : ∃ z, z = ye.xt := ⟨_, rfl⟩
              obtain ⟨dn, hdn⟩ : ∃ z, z = ye.dn := ⟨_, rfl⟩
              have K1 := hid (show so ≠ 7 → ¬ pr < bal by rw [hso, hpr, hbal]; exact HKA.out.pr)
              have K2 := hid (show so = 6 → eab = bal ∧ ext = avt by rw [hso, heab, hbal, hext, havt]; exact HKA.out.acc)
              have K3 := hid (show so = 1 → ¬ ovt < lo ∧ ¬ hi9 < ovt by rw [hso, hovt, hlo9, hhi]; exact HKA.out.okay)
              have K4 := hid (show so = 7 → dn = true by rw [hso, hdn]; exact HKA.out.stab)
              have K5 := hid (show so = 8 → ¬ oab ≤ bal by rw [hso, hoab, hbal]; exact HKA.out.rej)
              have KF := hid HKA.out.fr
              have HEQ := hid (And.intro hso (And.intro hbal (And.intro hovt (And.intro hoab (And.intro havt (And.intro hpr (And.intro hlo9 (And.intro hhi (And.intro heab (And.intro hext hdn))))))))))
              clear hso hbal hovt hoab havt hpr hlo9 hhi heab hext hdn HKA
              go_upto_region 26 with (first
                | ((with_reducible refine loadC (x := ?lx27) (b := p3) (T := 67) ye ?lg27 ?lo27 ?lxx27 ?lc27 ?lh27); (case lg27 => rfl); (case lo27 => rfl); (case lxx27 => rfl); (case lc27 => exact HE10.out))
                | (go_at_call 26; refine (cSameE ye _).mono ?_; rintro z wS ⟨rfl, hB⟩; have HBS : Hid (Below wc.heap.size wc wS) := hid hB; clear hB)
                | (go_at_call 25; refine (HRC.out _ HBS.out).mono ?_; rintro z wT ⟨rfl, hB⟩; have HBT : Hid (Below wc.heap.size wc wT) := hid (HBS.out.trans (hB.mono HBS.out.size)); have HOT : Hid (OM wT p2 o.m) := hid (heapB HO10.out HBT.out (Array.getElem?_eq_some_iff.1 HO10.out).1); have HAT : Hid (OM wT p a.m) := hid (heapB HA10.out HBT.out (Array.getElem?_eq_some_iff.1 HA10.out).1); have HET : Hid (Ob wT p3 67 ye) := hid (heapB HE10.out HBT.out (Array.getElem?_eq_some_iff.1 HE10.out).1); clear hB; obtain ⟨hso, hbal, hovt, hoab, havt, hpr, hlo9, hhi, heab, hext, hdn⟩ := HEQ.out; have g0 : wT.cell? ⟨p2, 0, none⟩ = some (.int .i64 so) := (by rw [hso]; exact HOT.out.cell (m := o.m) (j := 0) rfl); have g1 : wT.cell? ⟨p2, 1, none⟩ = some (.int .i64 n9) := (by rw [← KF.out]; exact HOT.out.cell (m := o.m) (j := 1) rfl); have g3 : wT.cell? ⟨p2, 3, none⟩ = some (.int .i64 bal) := (by rw [hbal]; exact HOT.out.cell (m := o.m) (j := 3) rfl); have g11 : wT.cell? ⟨p2, 11, none⟩ = some (.int .i64 ovt) := (by rw [hovt]; exact HOT.out.cell (m := o.m) (j := 11) rfl); have g15 : wT.cell? ⟨p2, 15, none⟩ = some (.int .i64 oab) := (by rw [hoab]; exact HOT.out.cell (m := o.m) (j := 15) rfl); have h11 : wT.cell? ⟨p, 11, none⟩ = some (.int .i64 avt) := (by rw [havt]; exact HAT.out.cell (m := a.m) (j := 11) rfl); have e7 : wT.cell? ⟨p3, 7, none⟩ = some (.int .i64 pr) := (by rw [hpr]; exact HET.out.cell (j := 7) rfl); have e8 : wT.cell? ⟨p3, 8, none⟩ = some (.int .i64 lo) := (by rw [hlo9]; exact HET.out.cell (j := 8) rfl); have e9 : wT.cell? ⟨p3, 9, none⟩ = some (.int .i64 hi9) := (by rw [hhi]; exact HET.out.cell (j := 9) rfl); have e12 : wT.cell? ⟨p3, 12, none⟩ = some (.int .i64 eab) := (by rw [heab]; exact HET.out.cell (j := 12) rfl); have e13 : wT.cell? ⟨p3, 13, none⟩ = some (.int .i64 ext) := (by rw [hext]; exact HET.out.cell (j := 13) rfl); have e16 : wT.cell? ⟨p3, 16, none⟩ = some (.bool dn) := (by rw [hdn]; exact HET.out.cell (j := 16) rfl); clear hso hbal hovt hoab havt hpr hlo9 hhi heab hext hdn)
                | fail)
              have HBE : Hid (Below w6.heap.size w6 wT) := hid ((HB9.out.trans (HB10.out.mono HB9.out.size)).trans (HBT.out.mono (Nat.le_trans HB9.out.size HB10.out.size)))
              clear HBS HBT HOT HAT HET HEQ HRC HE10 HO10 HA10 HB10 HV9 HO9 HA9 HWF HC9 HB9
              go_cut [147] from 61 to 214 (fun u wx => u = .bool false ∧ wx = wT)
              case first =>
                as_aux_lemma =>
                  by_cases s7 : so = 7
                  · have s7b : (so != 7) = false := by simp [s7]
                    clear s7
                    go_wp2_with fail
                    go_meet
                    exact ⟨by first | rfl | simp [*], rfl⟩
                  · have hp7 := K1.out s7
                    have s7b : (so != 7) = true := by simpa using s7
                    clear s7
                    go_wp2_with fail
                    go_meet
                    exact ⟨by first | rfl | simp [*], rfl⟩
              obtain ⟨rfl, hwx⟩ := hcut
              subst hwx
              go_upto_region 28 with fail
              go_cut [194] from 61 to 214 (fun u wx => u = .bool false ∧ wx = wc)
              case first =>
                as_aux_lemma =>
                  by_cases s6 : so = 6
                  · have ha1 : ¬ eab < bal := by have := (K2.out s6).1; omega
                    have ha2 : (eab == bal) = true := by rw [(K2.out s6).1]; simp
                    have ha3 : (ext != avt) = false := by rw [(K2.out s6).2]; simp
                    have s6a : (so == 6) = true := by simp [s6]
                    have s1a : (so == 1) = false := by rw [s6]; rfl
                    clear s6
                    go_wp2_with fail
                    go_meet
                    exact ⟨by first | rfl | simp [*], rfl⟩
                  · have s6a : (so == 6) = false := by simpa using s6
                    by_cases s1 : so = 1
                    · obtain ⟨ho1, ho2⟩ := K3.out s1
                      have s1a : (so == 1) = true := by simp [s1]
                      clear s1 s6
                      go_wp2_with fail
                      go_meet
                      exact ⟨by first | rfl | simp [*], rfl⟩
                    · have s1a : (so == 1) = false := by simpa using s1
                      clear s1 s6
                      go_wp2_with fail
                      go_meet
                      exact ⟨by first | rfl | simp [*], rfl⟩
              obtain ⟨rfl, hwx⟩ := hcut
              subst hwx
              go_upto_region 30 with fail
              go_cut [214] from 61 to 214 (fun u wx => u = .bool false ∧ wx = wc)
              case first =>
                as_aux_lemma =>
                  by_cases s7 : so = 7
                  · have hdt := K4.out s7
                    have s7a : (so == 7) = true := by simp [s7]
                    have s8a : (so == 8) = false := by rw [s7]; rfl
                    clear s7
                    go_wp2_with fail
                    go_meet
                    exact ⟨by first | rfl | simp [*], rfl⟩
                  · have s7a : (so == 7) = false := by simpa using s7
                    by_cases s8 : so = 8
                    · have ho8 := K5.out s8
                      have s8a : (so == 8) = true := by simp [s8]
                      clear s7 s8
                      go_wp2_with fail
                      go_meet
                      exact ⟨by first | rfl | simp [*], rfl⟩
                    · have s8a : (so == 8) = false := by simpa using s8
                      clear s7 s8
                      go_wp2_with fail
                      go_meet
                      exact ⟨by first | rfl | simp [*], rfl⟩
              obtain ⟨rfl, hwx⟩ := hcut
              subst hwx
              go_wp2_with fail
              go_roundg (n14 - (j + 1))
              case measure => omega
              case rel => exact ⟨j + 1, by omega, by omega, by go_num, HBE⟩
        · have hjj : ¬ ((j : Int) < n14) := by omega
          go_wp2_with fail
          go_roundw
          case rel => exact ⟨k + 1, r.1, r.2.1, wv6, by omega, by go_num, hid (HV6.out.mono (by have := HWL.out; have := HAS.out.1; have := H40.out; omega) |>.on HC6.out), hid HPN.out.iv, hid (by have := HLN.out; have := HWL.out; omega), hid (HB6.out.trans (HC6.out.mono HB6.out.size))⟩
          case measure => simp [RowKit.intOf]; omega
    · have hkk : k = m := by omega
      subst hkk
      go_wp2_with fail
      go_at_call 8
      refine (cVAlive wr).mono ?_
      rintro e wz ⟨rfl, hBz⟩
      have HBz := hid (HB.out.trans (hBz.mono HB.out.size))
      clear hBz
      go_wp2_with fail
      go_ret
      exact ⟨rfl, HBz.out⟩
end Go.Proofs.YtlehcaacfgocaaaGreat
