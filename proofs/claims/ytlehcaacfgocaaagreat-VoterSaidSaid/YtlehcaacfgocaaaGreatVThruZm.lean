import Derived.Test.YtlehcaacfgocaaaGreatVThruLZm
namespace Go.Proofs.YtlehcaacfgocaaaGreat
set_option linter.unusedVariables false
open Go.RowKit
open Go.Lib (hid)
set_option maxHeartbeats 32000000 in
set_option maxRecDepth 100000 in
theorem cThru {w : World} {B : Bd} {q x b b2 N : Nat} {nd : Int} {s : Sd} {wv : Value} {ws : List Ms} (h : Vo w B q x b b2 N nd s wv ws) (hN : N + ws.length ≤ 20000) (hg : Gd s) (hw : ∀ m ∈ ws, Wt s m) (hBw : B.top ≤ w.heap.size) (hl : ws.length ≤ 1000) :
    Calls Tryz.prog 121 #[ptr q] w (OutF w B q x b b2 (N + ws.length) nd wv (thruF nd s ws)) := by
  have HV := hid h
  have HN := hid hN
  have HBW := hid hBw
  have HL := hid hl
  obtain ⟨n0, ids0, hn0, hv0⟩ := h.ix
  have ho := hv0.ow
  obtain ⟨la0, lc0, ln0, rfl, hln⟩ := ho.asSlice
  have hlc : ln0 ≤ lc0 := by
    rcases ho.2 with ⟨e, _⟩ | ⟨g, cap, cur, e, hb, hg', hn, hm, hs, ht⟩
    · injection e with _ e2 e3; omega
    · injection e with _ e2 e3; omega
  have HT : Hid (Th w w B q x b b2 N nd s s (.slice la0 ln0 lc0) (.slice none 0 0) (.slice none 0 0) (.slice la0 ln0 lc0) ws [] [] 0) := hid
    ⟨h, Tch.refl _ _, OwnG.nil _ _ _ _ _, (fun k e => by cases e), by simp, OwnG.nil _ _ _ _ _, by simp, by rw [List.drop_zero]; exact OwnG.slG kM ho, h.lt, h.nocell, hBw, fun e => by
      rw [List.drop_zero] at e
      subst e
      exact OwnM.nilOr ho rfl, by rw [List.drop_zero]; simp, hg, hw, Nat.le_refl _, Nat.le_refl _⟩
  have HWV : Hid (∀ j, (Value.slice la0 ln0 lc0).ownBlock = some j → j < w.heap.size) := hid fun j hj => (ho.lt j hj).2
  have hln' : ln0 + 0 = ws.length := by rw [hln]; unfold mgs; rw [List.length_map]; rfl
  have k1 := hv0.cells.2.1
  clear h hN hg hw hBw hl hv0 ho hn0 hln
  go_enter Tryz.func121, Tryz.ntmps121
  go_wp2_with fail
  refine wp_scope_jumps 0 (JThru w B q x b b2 N nd s (.slice la0 ln0 lc0) ws) (fun a' _ => slotL (a'.tmps.getD 5 undef)) rfl ?_ ?_
  · go_wp2_with fail
    go_step3
    have HTH := HT
    have hlk := hln'
    skip
    have kov : w.cell? ⟨q, 2, none⟩ = some (.bool s.ov) := (cellAt' HTH.out.vo.ob 2).trans rfl
    obtain ⟨ov, hov⟩ : ∃ z, z = s.ov := ⟨_, rfl⟩
    rw [← hov] at kov
    have HOV := hid hov
    clear hov
    by_cases h0 : ln0 = 0
    · have hlz : ¬ ((0 : Int) < ln0) := by omega
      have HZ0 := hid h0
      subst h0
      have HSL := hid HTH.out.left
      have HLN2 := hid HTH.out.lnil
      have HST := hid HTH.out.still
      have k1 : w.cell? ⟨q, 1, none⟩ = some (.slice la0 0 lc0) := (cellAt' HTH.out.vo.ob 1).trans rfl
      have z1 : w.frozen? ⟨q, 1, none⟩ = false := frozenAt HTH.out.vo.ob 1
      have hsz := HTH.out.tch.size
      go_wp2_with (first
        | ((with_reducible refine wpList_append_msF ?ag1 ?as1 ?ax1 ?ao1 w.heap.size _ (mgs ([] : List Ms)) ?es1 HST.out (.slice la0 0 lc0) (mgs (ws.drop 0)) ?ex1 HSL.out (fun e => HLN2.out (List.map_eq_nil_iff.1 e)) ?el1 hsz ?eh1); (case ag1 => rfl); (case ao1 => rfl); (case es1 => rfl); (case ex1 => rfl); (case el1 => have := HTH.out.stl; have := HL.out; unfold mgs; rw [List.length_map, List.length_map, List.length_drop]; omega); intro v9 w9 ho9 hg9 hf9; obtain ⟨a9, c9, n9, rfl, hn9⟩ := OwnG.asSlice ho9; have HO9 := hid ho9; have HF9 := hid hf9; have HG9 := hid hg9; have HB9 := hid (th_grown HTH.out hg9); have k1' : w9.cell? ⟨q, 1, none⟩ = some (.slice la0 0 lc0) := (cellAt' HB9.out.1 1).trans rfl; have z1' : w9.frozen? ⟨q, 1, none⟩ = false := frozenAt HB9.out.1 1; clear ho9 hg9 hn9 hf9)
        | fail)
      skip
      simp only [Exit.jump]
      go_ret
      exact th_end HTH.out HO9.out HG9.out HF9.out HWV.out (by omega) (.inl (by have := hlk; omega))
    · have hlz : ((0 : Int) < ln0) := by omega
      have hlp : 0 < ln0 := by omega
      have hlkk : 0 < ws.length := by omega
      rcases ov with _ | _
      · obtain ⟨m, hmk⟩ : ∃ m, ws[0]? = some m := ⟨ws[0]'(by omega), List.getElem?_eq_getElem (by omega)⟩
        have hdr : ws.drop 0 = m :: ws.drop (0 + 1) := drop_nextW hmk
        have hsl0 := HTH.out.left0
        rw [hdr] at hsl0
        obtain ⟨la0', ln0', lc0', hsr, hsl1, hln1, hlc1, hnil1⟩ := slice_from1 hsl0 hlc
        have hslr := HTH.out.left
        rw [hdr] at hslr
        clear hsl0
        obtain ⟨bb, oo, cc, aa, e0, ha0, hr0, hl0⟩ := hslr
        injection e0 with e01 e02 e03
        subst e01
        obtain rfl := ha0 (by simp [mgs])
        have HR : Hid (w.rangeAt bb oo m.m.list) := hid (by have := hr0 0 m.m (by simp [mgs]); simpa using this)
        have HSR := hid hsr
        have HSL1 := hid hsl1
        have HN1 := hid hnil1
        have HWT := hid (HTH.out.wt m (List.mem_of_getElem? hmk))
        have HMK := hid hmk
        have HDR := hid hdr
        have HMA := hid (HTH.out.vo.wa m (List.mem_of_getElem? hmk))
        have HML := hid (HTH.out.vo.wl m (List.mem_of_getElem? hmk))
        have HRM : Hid (RoomM (w.alloc zeroMc) w.heap.size) := hid ⟨_, heap_alloc_new w _, rfl⟩
        clear hmk hdr hsr hsl1 hnil1 ha0 hr0 hl0 e02 e03
        go_wp2_with (first
          | ((with_reducible refine loadMl (x := ?lx3) (b := ?lb3) (o := ?lo3) m.m ?lg3 ?lp3 ?lxx3 ?lc3 ?_); (case lg3 => rfl); (case lp3 => rfl); (case lxx3 => rfl); (case lc3 => exact HR.out))
          | ((with_reducible refine storeM (x := ?sx4) (y := ?sy4) (b := w.heap.size) m.m ?sg4 ?so4 ?sxx4 ?syy4 ?sc4 ?sh4); (case sg4 => rfl); (case so4 => rfl); (case sxx4 => rfl); (case syy4 => rfl); (case sc4 => exact HRM.out); intro W1 hO hU; have HB2 : Hid (Below w.heap.size w W1) := hid ((laid1_b w zeroMc).trans (hU.below _ (Nat.le_refl _))); have HO1 := hid hO; have hsr1 := HSR.out W1; clear hO hU)
          | ((with_reducible refine loadM (x := ?lx5) (b := w.heap.size) m.m ?lg5 ?lo5 ?lxx5 ?lc5 ?lh5); (case lg5 => rfl); (case lo5 => rfl); (case lxx5 => rfl); (case lc5 => exact HO1.out))
          | fail)
        have hA := cAnsD (HTH.out.vo.on HB2.out) (by have := HN.out; omega) (HMA.out.on HB2.out) HML.out HTH.out.gd HWT.out
        clear hsr1
        go_at_call 41
        refine hA.mono ?_
        rintro z w3 ⟨v3, ls, rfl, hs3, hsh3, hat3, han3, hV3, hT3, -⟩
        obtain ⟨na, nc, nn, rfl, hnn⟩ := slice_of hsh3
        clear hA
        have HS3 := hid hs3
        have HSH3 := hid hsh3
        have HAT3 := hid hat3
        have HAN3 := hid han3
        have HV3 := hid hV3
        have HT3 : Hid (Tch (TV q x b b2) w w3) := hid ((Tch.ofBelow HB2.out).trans hT3)
        have HM3 : Hid (OM w3 w.heap.size m.m) := hid (hT3.ob HO1.out (fun hk => by have := HTH.out.vo.lt _ hk; omega))
        have HNN := hid hnn
        clear hs3 hsh3 hat3 han3 hV3 hT3 hnn HO1 HB2 HRM HR
        have HRW := hid (HTH.out.rows HT3.out)
        have hsz3 : w.heap.size ≤ w3.heap.size := HRW.out.sz
        by_cases hls : ls.length = 0
        · have hz : nn = 0 := by have := HNN.out; omega
          have HLS := hid hls
          clear hls
          subst hz
          go_wp2_with (first
            | ((with_reducible refine loadM (x := ?lx10) (b := w.heap.size) m.m ?lg10 ?lo10 ?lxx10 ?lc10 ?lh10); (case lg10 => rfl); (case lo10 => rfl); (case lxx10 => rfl); (case lc10 => exact HM3.out))
            | ((with_reducible refine wpList_bsM (x := ?bx11) m.m ?bg11 ?bo11 ?be11 ?bh11); (case bg11 => rfl); (case bo11 => rfl); (case be11 => rfl); intro w4 hO hBb hWb; have HO4 := hid hO; have HB4 := hid hBb; have HRW4 := hid (HRW.out.alloc hBb); have hsz4 : w.heap.size ≤ w4.heap.size := Nat.le_trans hsz3 hBb.size; clear hO hBb hWb)
            | ((with_reducible refine wpList_append_ms1 ?ag12 ?as12 ?ax12 ?ao12 w.heap.size _ (mgs ([] : List Ms)) ?es12 HRW4.out.still ⟨w3.heap.size, 0, none⟩ 1 1 m.m ?ex12 (OM.sl HO4.out 1) ?el12 hsz4 ?eh12); (case ag12 => rfl); (case ao12 => rfl); (case es12 => rfl); (case ex12 => rfl); (case el12 => have := HTH.out.stl; have := HL.out; unfold mgs; rw [List.length_map]; omega); intro v5 w5 ho5 hg5 hf5; obtain ⟨a5, c5, n5, rfl, hn5⟩ := OwnG.asSlice ho5; have HRW5 := hid (HRW4.out.still' (L2' := mgs (([] : List Ms) ++ [m])) (by unfold mgs at ho5 ⊢; rw [List.map_append]; exact ho5) hg5 hf5); have HSS5 := hid (sl_shape0 (w := w5) HSH3.out HLS.out); have hsz5 : w.heap.size ≤ w5.heap.size := Nat.le_trans hsz4 hg5.size; clear ho5 hg5 hf5 hn5)
            | ((with_reducible refine wpList_append_msF ?ag13 ?as13 ?ax13 ?ao13 w.heap.size _ (mgs ([] : List Ms)) ?es13 HRW5.out.told (.slice na 0 nc) (mgs ls) ?ex13 HSS5.out (shape_nil HSH3.out) ?el13 hsz5 ?eh13); (case ag13 => rfl); (case ao13 => rfl); (case es13 => rfl); (case ex13 => rfl); (case el13 => have := HTH.out.tll; have := HL.out; have := ans_len HAN3.out; unfold mgs; rw [List.length_map, List.length_map]; omega); intro v8 w8 ho8 hg8 hf8; obtain ⟨a8, c8, n8, rfl, hn8⟩ := OwnG.asSlice ho8; have HRW8 := hid (HRW5.out.told' ho8 hg8 hf8); clear ho8 hg8 hf8 hn8)
            | fail)
          (first | go_step3 | skip)
          exact ⟨rfl, ⟨0 + 1, (ansD nd s m).1, ([] : List Ms) ++ [m], ([] : List Ms) ++ ls, _, _, _, _, _, _, _, _, _, _, _, _, _, _, _, _, _, _, _, _, _, _, _, _, _, _, _, _, _, _, _, _, _, _, _, _, _, _, _, _, _, _, _, _, _, _, _, _, _, _, _, _, _, by omega, hlc1, hid (HTH.out.next HMK.out HOV.out.symm HWV.out HV3.out HT3.out HAT3.out HAN3.out HRW8.out (by rw [if_pos HLS.out]) HSL1.out (fun e => .inr (by obtain ⟨ad, rfl⟩ := HN1.out (by rw [e]; rfl); have hz9 : ln0' = 0 := (by have h9 := congrArg List.length e; rw [List.length_drop] at h9; simp at h9; omega); subst hz9; exact ⟨_, _, rfl⟩))), rfl, rfl⟩⟩
        · have hz : ¬ nn = 0 := by have := HNN.out; omega
          have hzz : ¬ ((nn : Int) = 0) := by omega
          have HLS := hid hls
          clear hls
          go_wp2_with (first
            | ((with_reducible refine wpList_append_msF ?ag14 ?as14 ?ax14 ?ao14 w.heap.size _ (mgs ([] : List Ms)) ?es14 HRW.out.told (.slice na nn nc) (mgs ls) ?ex14 HS3.out (shape_nil HSH3.out) ?el14 hsz3 ?eh14); (case ag14 => rfl); (case ao14 => rfl); (case es14 => rfl); (case ex14 => rfl); (case el14 => have := HTH.out.tll; have := HL.out; have := ans_len HAN3.out; unfold mgs; rw [List.length_map, List.length_map]; omega); intro v8 w8 ho8 hg8 hf8; obtain ⟨a8, c8, n8, rfl, hn8⟩ := OwnG.asSlice ho8; have HRW8 := hid (HRW.out.told' ho8 hg8 hf8); clear ho8 hg8 hf8 hn8)
            | fail)
          (first | go_step3 | skip)
          exact ⟨rfl, ⟨0 + 1, (ansD nd s m).1, ([] : List Ms), ([] : List Ms) ++ ls, _, _, _, _, _, _, _, _, _, _, _, _, _, _, _, _, _, _, _, _, _, _, _, _, _, _, _, _, _, _, _, _, _, _, _, _, _, _, _, _, _, _, _, _, _, _, _, _, _, _, _, _, _, by omega, hlc1, hid (HTH.out.next HMK.out HOV.out.symm HWV.out HV3.out HT3.out HAT3.out HAN3.out HRW8.out (by rw [if_neg HLS.out]) HSL1.out (fun e => .inr (by obtain ⟨ad, rfl⟩ := HN1.out (by rw [e]; rfl); have hz9 : ln0' = 0 := (by have h9 := congrArg List.length e; rw [List.length_drop] at h9; simp at h9; omega); subst hz9; exact ⟨_, _, rfl⟩))), rfl, rfl⟩⟩
      · have HSL := hid HTH.out.left
        have HLN2 := hid HTH.out.lnil
        have HST := hid HTH.out.still
        have k1 : w.cell? ⟨q, 1, none⟩ = some (.slice la0 ln0 lc0) := (cellAt' HTH.out.vo.ob 1).trans rfl
        have z1 : w.frozen? ⟨q, 1, none⟩ = false := frozenAt HTH.out.vo.ob 1
        have hsz := HTH.out.tch.size
        go_wp2_with (first
          | ((with_reducible refine wpList_append_msF ?ag15 ?as15 ?ax15 ?ao15 w.heap.size _ (mgs ([] : List Ms)) ?es15 HST.out (.slice la0 ln0 lc0) (mgs (ws.drop 0)) ?ex15 HSL.out (fun e => HLN2.out (List.map_eq_nil_iff.1 e)) ?el15 hsz ?eh15); (case ag15 => rfl); (case ao15 => rfl); (case es15 => rfl); (case ex15 => rfl); (case el15 => have := HTH.out.stl; have := HL.out; unfold mgs; rw [List.length_map, List.length_map, List.length_drop]; omega); intro v9 w9 ho9 hg9 hf9; obtain ⟨a9, c9, n9, rfl, hn9⟩ := OwnG.asSlice ho9; have HO9 := hid ho9; have HF9 := hid hf9; have HG9 := hid hg9; have HB9 := hid (th_grown HTH.out hg9); have k1' : w9.cell? ⟨q, 1, none⟩ = some (.slice la0 ln0 lc0) := (cellAt' HB9.out.1 1).trans rfl; have z1' : w9.frozen? ⟨q, 1, none⟩ = false := frozenAt HB9.out.1 1; clear ho9 hg9 hn9 hf9)
          | fail)
        skip
        simp only [Exit.jump]
        go_ret
        exact th_end HTH.out HO9.out HG9.out HF9.out HWV.out (by omega) (.inr HOV.out.symm)
  · rintro a' wr ⟨k, s1, st, tls, ta, tn, tc, sa, sn, sc, la, ln, lc, u6, u7, u8, u9, u10, u11, u12, u13, u14, u15, u16, u17, u18, u19, u20, u21, u22, u23, u24, u25, u26, u27, u28, u29, u30, u31, u32, u33, u34, u35, u36, u37, u38, u39, u40, u41, u42, u43, u44, u45, u46, u47, u48, u5, hlk, hlc, HTH, rfl, rfl⟩
    have kov : wr.cell? ⟨q, 2, none⟩ = some (.bool s1.ov) := (cellAt' HTH.out.vo.ob 2).trans rfl
    obtain ⟨ov, hov⟩ : ∃ z, z = s1.ov := ⟨_, rfl⟩
    rw [← hov] at kov
    have HOV := hid hov
    clear hov
    by_cases h0 : ln = 0
    · have hlz : ¬ ((0 : Int) < ln) := by omega
      have HZ0 := hid h0
      subst h0
      have HSL := hid HTH.out.left
      have HLN2 := hid HTH.out.lnil
      have HST := hid HTH.out.still
      have k1 : wr.cell? ⟨q, 1, none⟩ = some (.slice la0 ln0 lc0) := (cellAt' HTH.out.vo.ob 1).trans rfl
      have z1 : wr.frozen? ⟨q, 1, none⟩ = false := frozenAt HTH.out.vo.ob 1
      have hsz := HTH.out.tch.size
      go_wp2_with (first
        | ((with_reducible refine wpList_append_msF ?ag17 ?as17 ?ax17 ?ao17 w.heap.size _ (mgs st) ?es17 HST.out (.slice la 0 lc) (mgs (ws.drop k)) ?ex17 HSL.out (fun e => HLN2.out (List.map_eq_nil_iff.1 e)) ?el17 hsz ?eh17); (case ag17 => rfl); (case ao17 => rfl); (case es17 => rfl); (case ex17 => rfl); (case el17 => have := HTH.out.stl; have := HL.out; unfold mgs; rw [List.length_map, List.length_map, List.length_drop]; omega); intro v9 w9 ho9 hg9 hf9; obtain ⟨a9, c9, n9, rfl, hn9⟩ := OwnG.asSlice ho9; have HO9 := hid ho9; have HF9 := hid hf9; have HG9 := hid hg9; have HB9 := hid (th_grown HTH.out hg9); have k1' : w9.cell? ⟨q, 1, none⟩ = some (.slice la0 ln0 lc0) := (cellAt' HB9.out.1 1).trans rfl; have z1' : w9.frozen? ⟨q, 1, none⟩ = false := frozenAt HB9.out.1 1; clear ho9 hg9 hn9 hf9)
        | fail)
      skip
      simp only [Exit.jump]
      go_ret
      exact th_end HTH.out HO9.out HG9.out HF9.out HWV.out (by omega) (.inl (by have := hlk; omega))
    · have hlz : ((0 : Int) < ln) := by omega
      have hlp : 0 < ln := by omega
      have hlkk : k < ws.length := by omega
      rcases ov with _ | _
      · obtain ⟨m, hmk⟩ : ∃ m, ws[k]? = some m := ⟨ws[k]'(by omega), List.getElem?_eq_getElem (by omega)⟩
        have hdr : ws.drop k = m :: ws.drop (k + 1) := drop_nextW hmk
        have hsl0 := HTH.out.left0
        rw [hdr] at hsl0
        obtain ⟨la', ln', lc', hsr, hsl1, hln1, hlc1, hnil1⟩ := slice_from1 hsl0 hlc
        have hslr := HTH.out.left
        rw [hdr] at hslr
        clear hsl0
        obtain ⟨bb, oo, cc, aa, e0, ha0, hr0, hl0⟩ := hslr
        injection e0 with e01 e02 e03
        subst e01
        obtain rfl := ha0 (by simp [mgs])
        have HR : Hid (wr.rangeAt bb oo m.m.list) := hid (by have := hr0 0 m.m (by simp [mgs]); simpa using this)
        have HSR := hid hsr
        have HSL1 := hid hsl1
        have HN1 := hid hnil1
        have HWT := hid (HTH.out.wt m (List.mem_of_getElem? hmk))
        have HMK := hid hmk
        have HDR := hid hdr
        have HMA := hid (HTH.out.vo.wa m (List.mem_of_getElem? hmk))
        have HML := hid (HTH.out.vo.wl m (List.mem_of_getElem? hmk))
        have HRM : Hid (RoomM (wr.alloc zeroMc) wr.heap.size) := hid ⟨_, heap_alloc_new wr _, rfl⟩
        clear hmk hdr hsr hsl1 hnil1 ha0 hr0 hl0 e02 e03
        go_wp2_with (first
          | ((with_reducible refine loadMl (x := ?lx19) (b := ?lb19) (o := ?lo19) m.m ?lg19 ?lp19 ?lxx19 ?lc19 ?_); (case lg19 => rfl); (case lp19 => rfl); (case lxx19 => rfl); (case lc19 => exact HR.out))
          | ((with_reducible refine storeM (x := ?sx20) (y := ?sy20) (b := wr.heap.size) m.m ?sg20 ?so20 ?sxx20 ?syy20 ?sc20 ?sh20); (case sg20 => rfl); (case so20 => rfl); (case sxx20 => rfl); (case syy20 => rfl); (case sc20 => exact HRM.out); intro W1 hO hU; have HB2 : Hid (Below wr.heap.size wr W1) := hid ((laid1_b wr zeroMc).trans (hU.below _ (Nat.le_refl _))); have HO1 := hid hO; have hsr1 := HSR.out W1; clear hO hU)
          | ((with_reducible refine loadM (x := ?lx21) (b := wr.heap.size) m.m ?lg21 ?lo21 ?lxx21 ?lc21 ?lh21); (case lg21 => rfl); (case lo21 => rfl); (case lxx21 => rfl); (case lc21 => exact HO1.out))
          | fail)
        have hA := cAnsD (HTH.out.vo.on HB2.out) (by have := HN.out; omega) (HMA.out.on HB2.out) HML.out HTH.out.gd HWT.out
        clear hsr1
        go_at_call 41
        refine hA.mono ?_
        rintro z w3 ⟨v3, ls, rfl, hs3, hsh3, hat3, han3, hV3, hT3, -⟩
        obtain ⟨na, nc, nn, rfl, hnn⟩ := slice_of hsh3
        clear hA
        have HS3 := hid hs3
        have HSH3 := hid hsh3
        have HAT3 := hid hat3
        have HAN3 := hid han3
        have HV3 := hid hV3
        have HT3 : Hid (Tch (TV q x b b2) wr w3) := hid ((Tch.ofBelow HB2.out).trans hT3)
        have HM3 : Hid (OM w3 wr.heap.size m.m) := hid (hT3.ob HO1.out (fun hk => by have := HTH.out.vo.lt _ hk; omega))
        have HNN := hid hnn
        clear hs3 hsh3 hat3 han3 hV3 hT3 hnn HO1 HB2 HRM HR
        have HRW := hid (HTH.out.rows HT3.out)
        have hsz3 : w.heap.size ≤ w3.heap.size := HRW.out.sz
        by_cases hls : ls.length = 0
        · have hz : nn = 0 := by have := HNN.out; omega
          have HLS := hid hls
          clear hls
          subst hz
          go_wp2_with (first
            | ((with_reducible refine loadM (x := ?lx26) (b := wr.heap.size) m.m ?lg26 ?lo26 ?lxx26 ?lc26 ?lh26); (case lg26 => rfl); (case lo26 => rfl); (case lxx26 => rfl); (case lc26 => exact HM3.out))
            | ((with_reducible refine wpList_bsM (x := ?bx27) m.m ?bg27 ?bo27 ?be27 ?bh27); (case bg27 => rfl); (case bo27 => rfl); (case be27 => rfl); intro w4 hO hBb hWb; have HO4 := hid hO; have HB4 := hid hBb; have HRW4 := hid (HRW.out.alloc hBb); have hsz4 : w.heap.size ≤ w4.heap.size := Nat.le_trans hsz3 hBb.size; clear hO hBb hWb)
            | ((with_reducible refine wpList_append_ms1 ?ag28 ?as28 ?ax28 ?ao28 w.heap.size _ (mgs st) ?es28 HRW4.out.still ⟨w3.heap.size, 0, none⟩ 1 1 m.m ?ex28 (OM.sl HO4.out 1) ?el28 hsz4 ?eh28); (case ag28 => rfl); (case ao28 => rfl); (case es28 => rfl); (case ex28 => rfl); (case el28 => have := HTH.out.stl; have := HL.out; unfold mgs; rw [List.length_map]; omega); intro v5 w5 ho5 hg5 hf5; obtain ⟨a5, c5, n5, rfl, hn5⟩ := OwnG.asSlice ho5; have HRW5 := hid (HRW4.out.still' (L2' := mgs (st ++ [m])) (by unfold mgs at ho5 ⊢; rw [List.map_append]; exact ho5) hg5 hf5); have HSS5 := hid (sl_shape0 (w := w5) HSH3.out HLS.out); have hsz5 : w.heap.size ≤ w5.heap.size := Nat.le_trans hsz4 hg5.size; clear ho5 hg5 hf5 hn5)
            | ((with_reducible refine wpList_append_msF ?ag29 ?as29 ?ax29 ?ao29 w.heap.size _ (mgs tls) ?es29 HRW5.out.told (.slice na 0 nc) (mgs ls) ?ex29 HSS5.out (shape_nil HSH3.out) ?el29 hsz5 ?eh29); (case ag29 => rfl); (case ao29 => rfl); (case es29 => rfl); (case ex29 => rfl); (case el29 => have := HTH.out.tll; have := HL.out; have := ans_len HAN3.out; unfold mgs; rw [List.length_map, List.length_map]; omega); intro v8 w8 ho8 hg8 hf8; obtain ⟨a8, c8, n8, rfl, hn8⟩ := OwnG.asSlice ho8; have HRW8 := hid (HRW5.out.told' ho8 hg8 hf8); clear ho8 hg8 hf8 hn8)
            | fail)
          (first | go_step3 | skip)
          refine ⟨rfl, ⟨k + 1, (ansD nd s1 m).1, st ++ [m], tls ++ ls, _, _, _, _, _, _, _, _, _, _, _, _, _, _, _, _, _, _, _, _, _, _, _, _, _, _, _, _, _, _, _, _, _, _, _, _, _, _, _, _, _, _, _, _, _, _, _, _, _, _, _, _, _, by omega, hlc1, hid (HTH.out.next HMK.out HOV.out.symm HWV.out HV3.out HT3.out HAT3.out HAN3.out HRW8.out (by rw [if_pos HLS.out]) HSL1.out (fun e => .inr (by obtain ⟨ad, rfl⟩ := HN1.out (by rw [e]; rfl); have hz9 : ln' = 0 := (by have h9 := congrArg List.length e; rw [List.length_drop] at h9; simp at h9; omega); subst hz9; exact ⟨_, _, rfl⟩))), rfl, rfl⟩, ?_⟩
          show ln' < ln
          omega
        · have hz : ¬ nn = 0 := by have := HNN.out; omega
          have hzz : ¬ ((nn : Int) = 0) := by omega
          have HLS := hid hls
          clear hls
          go_wp2_with (first
            | ((with_reducible refine wpList_append_msF ?ag30 ?as30 ?ax30 ?ao30 w.heap.size _ (mgs tls) ?es30 HRW.out.told (.slice na nn nc) (mgs ls) ?ex30 HS3.out (shape_nil HSH3.out) ?el30 hsz3 ?eh30); (case ag30 => rfl); (case ao30 => rfl); (case es30 => rfl); (case ex30 => rfl); (case el30 => have := HTH.out.tll; have := HL.out; have := ans_len HAN3.out; unfold mgs; rw [List.length_map, List.length_map]; omega); intro v8 w8 ho8 hg8 hf8; obtain ⟨a8, c8, n8, rfl, hn8⟩ := OwnG.asSlice ho8; have HRW8 := hid (HRW.out.told' ho8 hg8 hf8); clear ho8 hg8 hf8 hn8)
            | fail)
          (first | go_step3 | skip)
          refine ⟨rfl, ⟨k + 1, (ansD nd s1 m).1, st, tls ++ ls, _, _, _, _, _, _, _, _, _, _, _, _, _, _, _, _, _, _, _, _, _, _, _, _, _, _, _, _, _, _, _, _, _, _, _, _, _, _, _, _, _, _, _, _, _, _, _, _, _, _, _, _, _, by omega, hlc1, hid (HTH.out.next HMK.out HOV.out.symm HWV.out HV3.out HT3.out HAT3.out HAN3.out HRW8.out (by rw [if_neg HLS.out]) HSL1.out (fun e => .inr (by obtain ⟨ad, rfl⟩ := HN1.out (by rw [e]; rfl); have hz9 : ln' = 0 := (by have h9 := congrArg List.length e; rw [List.length_drop] at h9; simp at h9; omega); subst hz9; exact ⟨_, _, rfl⟩))), rfl, rfl⟩, ?_⟩
          show ln' < ln
          omega
      · have HSL := hid HTH.out.left
        have HLN2 := hid HTH.out.lnil
        have HST := hid HTH.out.still
        have k1 : wr.cell? ⟨q, 1, none⟩ = some (.slice la0 ln0 lc0) := (cellAt' HTH.out.vo.ob 1).trans rfl
        have z1 : wr.frozen? ⟨q, 1, none⟩ = false := frozenAt HTH.out.vo.ob 1
        have hsz := HTH.out.tch.size
        go_wp2_with (first
          | ((with_reducible refine wpList_append_msF ?ag31 ?as31 ?ax31 ?ao31 w.heap.size _ (mgs st) ?es31 HST.out (.slice la ln lc) (mgs (ws.drop k)) ?ex31 HSL.out (fun e => HLN2.out (List.map_eq_nil_iff.1 e)) ?el31 hsz ?eh31); (case ag31 => rfl); (case ao31 => rfl); (case es31 => rfl); (case ex31 => rfl); (case el31 => have := HTH.out.stl; have := HL.out; unfold mgs; rw [List.length_map, List.length_map, List.length_drop]; omega); intro v9 w9 ho9 hg9 hf9; obtain ⟨a9, c9, n9, rfl, hn9⟩ := OwnG.asSlice ho9; have HO9 := hid ho9; have HF9 := hid hf9; have HG9 := hid hg9; have HB9 := hid (th_grown HTH.out hg9); have k1' : w9.cell? ⟨q, 1, none⟩ = some (.slice la0 ln0 lc0) := (cellAt' HB9.out.1 1).trans rfl; have z1' : w9.frozen? ⟨q, 1, none⟩ = false := frozenAt HB9.out.1 1; clear ho9 hg9 hn9 hf9)
          | fail)
        skip
        simp only [Exit.jump]
        go_ret
        exact th_end HTH.out HO9.out HG9.out HF9.out HWV.out (by omega) (.inr HOV.out.symm)
end Go.Proofs.YtlehcaacfgocaaaGreat
