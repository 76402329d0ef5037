import Derived.Test.YtbcmhnaiabifjaaG32
namespace Go.Proofs.Ytbcmhnaiabifjaa
set_option linter.unusedVariables false
open Go.RowKit
open Go.Lib (hid)
set_option maxHeartbeats 64000000 in
set_option maxRecDepth 100000 in
theorem cChooseBound {v : Value} {ls : List Ms} {w : World} {sz a0 a1 : Int} (hsz : 0 ≤ sz ∧ sz ≤ 255) (ha0 : 0 ≤ a0 ∧ a0 ≤ 65535) (ha1 : 0 ≤ a1 ∧ a1 ≤ 65535) (h : SlM w v (mgs ls)) (hA : ∀ m ∈ ls, m.at w) (hl : ls.length ≤ 9223372036854775807) : Calls Try.prog 5 #[.int .u8 sz, v, .agg #[.int .u16 a0, .int .u16 a1]] w fun e w' => e = .returned (.bool true) ∧ Below w.heap.size w w' := by
  obtain ⟨n, hn3, hn9, hn7⟩ : ∃ n : Nat, 3 ≤ n ∧ n ≤ 9 ∧ sz.tmod 7 = (n : Int) - 3 := ⟨(sz.tmod 7 + 3).toNat, by have := Int.tmod_nonneg 7 hsz.1; omega, by have := Int.tmod_lt_of_pos sz (show (0 : Int) < 7 by decide); have := Int.tmod_nonneg 7 hsz.1; omega, by have := Int.tmod_nonneg 7 hsz.1; omega⟩
  have HB0 : Hid (Below w.heap.size w (w.alloc (whoO a0 a1))) := hid (laid1_b w _)
  have HW0 : Hid ((w.alloc (whoO a0 a1)).heap[w.heap.size]? = some (whoO a0 a1)) := hid (laid1_0 w _)
  have hF := cFitsMs (h.on HB0.out) (fun m hm => (hA m hm).on HB0.out) hl
  have hsl := h
  have HA := hid hA
  obtain ⟨b, o, cap, a, rfl, ha, hc, hb⟩ := h
  have hlm : (mgs ls).length = ls.length := by unfold mgs; rw [List.length_map]
  rw [hlm] at ha hb hF hsl ⊢
  obtain ⟨m, hm⟩ : ∃ m, m = ls.length := ⟨_, rfl⟩
  rw [← hm] at hF hsl ha hb hl ⊢
  have HSL := hid hsl
  have HCC := hid hc
  have HN := hid hm
  have HHA1 := hid ha1
  clear hc hA hm hsl hlm
  go_enter Try.func5, Try.ntmps5
  go_wp2_with fail
  go_at_call 6
  refine hF.mono ?_
  rintro e w1 ⟨hf, hB⟩
  have HS1 := hid hB
  have HB1 : Hid (Below w.heap.size w w1) := hid (HB0.out.trans (hB.mono HB0.out.size))
  have HW1 : Hid (w1.heap[w.heap.size]? = some (whoO a0 a1)) := hid (heapB HW0.out hB (by simp))
  clear hB hF
  rcases hf with rfl | ⟨rfl, hl20, hsh⟩
  · as_aux_lemma =>
      go_wp2_with (first | (go_at_call 7; refine (cAlive15 _).mono ?_; rintro e wa ⟨rfl, hB⟩; have HBA : Hid (Below w.heap.size w wa) := hid (HB1.out.trans (hB.mono HB1.out.size)); clear hB) | fail)
      go_ret
      exact ⟨rfl, HBA.out⟩
  · have HSH : Hid (∀ m ∈ ls, m.short 1024) := hid (fun m hm => by have := hsh m hm; exact ⟨Nat.le_trans this.1 (by decide), Nat.le_trans this.2.1 (by decide), Nat.le_trans this.2.2 (by decide)⟩)
    have HL20 : Hid (m ≤ 20) := hid hl20
    clear hsh hl20 hl
    by_cases hm1 : m < 1
    · as_aux_lemma =>
        have hm1i : (m : Int) < 1 := by omega
        go_wp2_with (first | (go_at_call 7; refine (cAlive15 _).mono ?_; rintro e wa ⟨rfl, hB⟩; have HBA : Hid (Below w.heap.size w wa) := hid (HB1.out.trans (hB.mono HB1.out.size)); clear hB) | fail)
        go_ret
        exact ⟨rfl, HBA.out⟩
    · have hm1i : ¬ (m : Int) < 1 := by omega
      have hm0 : 0 < m := by omega
      have HBW := hid (hb hm0)
      obtain rfl := ha hm0
      obtain ⟨l0, hl0⟩ : ∃ y, ls[0]? = some y := ⟨ls[0]'(by rw [← HN.out]; exact hm0), List.getElem?_eq_getElem (by rw [← HN.out]; exact hm0)⟩
      have HL0 := hid (List.mem_of_getElem? hl0)
      have HR0 : Hid (∀ W, Below w.heap.size w W → W.rangeAt b o l0.m.list) := hid (fun W hW => by have := (HCC.out.on hW fun _ => HBW.out) 0 l0.m (at_mgs hl0); rwa [Nat.zero_mul, Nat.add_zero] at this)
      have HL00 := hid hl0
      clear hl0
      have H0A := hid (HA.out l0 HL0.out)
      have H0S := hid (HSH.out l0 HL0.out)
      go_upto_region 6 with (first
        | ((with_reducible refine loadVl (x := ?vx1) (b := b) (o := (o + 16)) l0.m.xt l0.m.xp ?vg1 ?vo1 ?vxx1 ?vc1 ?_); (case vg1 => rfl); (case vo1 => rfl); (case vxx1 => rfl); (case vc1 => exact rngA (HR0.out _ HB1.out)))
        | ((with_reducible refine storeV (x := ?wx2) (y := ?wy2) (b := w1.heap.size) l0.m.xt l0.m.xp ?wg2 ?wo2 ?wxx2 ?wyy2 ?wc2 ?wh2); (case wg2 => rfl); (case wo2 => rfl); (case wxx2 => rfl); (case wyy2 => rfl); (case wc2 => exact (roomVZ _)); intro w2 hO hU; have HF2 : Hid (OV w2 w1.heap.size l0.m.xt l0.m.xp) := hid hO; have HS2 : Hid (Below w1.heap.size w1 w2) := hid ((laid1_b w1 zeroVc).trans (hU.below w1.heap.size (Nat.le_refl _))); clear hO hU)
        | fail)
      have HB2 : Hid (Below w.heap.size w w2) := hid (HB1.out.trans (HS2.out.mono HB1.out.size))
      have cb : w2.cell? ⟨b, o + 15, none⟩ = some (.int .i64 l0.m.ab) := HR0.out _ HB2.out 15 _ rfl
      obtain ⟨fu, hfu⟩ : ∃ z, z = fullB l0.m.xt l0.a := ⟨_, rfl⟩
      have HFU := hid hfu
      have HCFU : Hid (Calls Try.prog 13 #[.agg (varr l0.m.xt l0.m.xp)] w2 fun e w' => e = .returned (.bool fu) ∧ Below w2.heap.size w2 w') := hid (by rw [hfu]; exact rFull _ (H0A.out.2.1.on HB2.out) H0S.out.2.1)
      clear hfu
      go_upto_region 7 with fail
      clear cb
      go_upto_region 8 with (first
        | ((with_reducible refine loadVl (x := ?vx3) (b := w1.heap.size) (o := 0) l0.m.xt l0.m.xp ?vg3 ?vo3 ?vxx3 ?vc3 ?_); (case vg3 => rfl); (case vo3 => rfl); (case vxx3 => rfl); (case vc3 => exact HF2.out.range))
        | (go_at_call 13; refine HCFU.out.mono ?_; rintro e w3 ⟨rfl, hB⟩; have HS3 := hid hB; clear hB)
        | fail)
      have HB3 : Hid (Below w.heap.size w w3) := hid (HB2.out.trans (HS3.out.mono HB2.out.size))
      have HF3 : Hid (OV w3 w1.heap.size l0.m.xt l0.m.xp) := hid (OV.on HF2.out HS3.out)
      have HW3 : Hid (w3.heap[w.heap.size]? = some (whoO a0 a1)) := hid (heapB (heapB HW1.out HS2.out (Array.getElem?_eq_some_iff.1 HW1.out).1) HS3.out (Nat.lt_of_lt_of_le (Array.getElem?_eq_some_iff.1 HW1.out).1 HS2.out.size))
      have HALL := hid (cAll (w := w3) n hn9 l0.m.c (HSL.out.on HB3.out) (fun x hx => (HA.out x hx).on HB3.out) HSH.out (by have := HL20.out; have := HN.out; omega))
      have c0 : w3.cell? ⟨b, o + 4, none⟩ = some (.int .i64 l0.m.c.i) := HR0.out _ HB3.out 4 _ rfl
      have c1 : w3.cell? ⟨b, o + 5, none⟩ = some (.int .i64 l0.m.c.k) := HR0.out _ HB3.out 5 _ rfl
      have c2 : w3.cell? ⟨b, o + 6, none⟩ = some (.int .i64 l0.m.c.s) := HR0.out _ HB3.out 6 _ rfl
      have c3 : w3.cell? ⟨b, o + 7, none⟩ = some (.int .i64 l0.m.c.t) := HR0.out _ HB3.out 7 _ rfl
      have c4 : w3.cell? ⟨b, o + 8, none⟩ = some (.int .i64 l0.m.c.d) := HR0.out _ HB3.out 8 _ rfl
      have c5 : w3.cell? ⟨b, o + 9, none⟩ = some (.int .i64 l0.m.c.p) := HR0.out _ HB3.out 9 _ rfl
      have c6 : w3.cell? ⟨b, o + 10, none⟩ = some (.int .i64 l0.m.c.q) := HR0.out _ HB3.out 10 _ rfl
      go_wp2_with fail
      go_at_call 14
      refine HALL.out.mono ?_
      rintro e w4 ⟨hP, hB⟩
      have HS4 := hid hB
      have HB4 : Hid (Below w.heap.size w w4) := hid (HB3.out.trans (hB.mono HB3.out.size))
      clear hB HALL c0 c1 c2 c3 c4 c5 c6
      rcases hP with rfl | ⟨g, gn, gc, rfl, hO, hR⟩
      · as_aux_lemma =>
          rcases fu with _ | _
          · as_aux_lemma =>
              by_cases hb1 : l0.m.ab < 1
              · as_aux_lemma =>
                  go_wp2_with (first | (go_at_call 7; refine (cAlive15 _).mono ?_; rintro e wa ⟨rfl, hB⟩; have HBA : Hid (Below w.heap.size w wa) := hid (HB4.out.trans (hB.mono HB4.out.size)); clear hB) | fail)
                  go_ret
                  exact ⟨rfl, HBA.out⟩
              · as_aux_lemma =>
                  go_wp2_with (first | (go_at_call 7; refine (cAlive15 _).mono ?_; rintro e wa ⟨rfl, hB⟩; have HBA : Hid (Below w.heap.size w wa) := hid (HB4.out.trans (hB.mono HB4.out.size)); clear hB) | fail)
                  go_ret
                  exact ⟨rfl, HBA.out⟩
          · as_aux_lemma =>
              by_cases hb1 : l0.m.ab < 1
              · as_aux_lemma =>
                  go_wp2_with (first | (go_at_call 7; refine (cAlive15 _).mono ?_; rintro e wa ⟨rfl, hB⟩; have HBA : Hid (Below w.heap.size w wa) := hid (HB4.out.trans (hB.mono HB4.out.size)); clear hB) | fail)
                  go_ret
                  exact ⟨rfl, HBA.out⟩
              · as_aux_lemma =>
                  go_wp2_with (first | (go_at_call 7; refine (cAlive15 _).mono ?_; rintro e wa ⟨rfl, hB⟩; have HBA : Hid (Below w.heap.size w wa) := hid (HB4.out.trans (hB.mono HB4.out.size)); clear hB) | fail)
                  go_ret
                  exact ⟨rfl, HBA.out⟩
      · have HO4 := hid hO
        have HAR := hid hR
        clear hO hR
        rcases fu with _ | _
        · as_aux_lemma =>
            go_wp2_with (first | (go_at_call 7; refine (cAlive15 _).mono ?_; rintro e wa ⟨rfl, hB⟩; have HBA : Hid (Below w.heap.size w wa) := hid (HB4.out.trans (hB.mono HB4.out.size)); clear hB) | fail)
            go_ret
            exact ⟨rfl, HBA.out⟩
        · as_aux_lemma =>
            by_cases hb1 : l0.m.ab < 1
            · as_aux_lemma =>
                go_wp2_with (first | (go_at_call 7; refine (cAlive15 _).mono ?_; rintro e wa ⟨rfl, hB⟩; have HBA : Hid (Below w.heap.size w wa) := hid (HB4.out.trans (hB.mono HB4.out.size)); clear hB) | fail)
                go_ret
                exact ⟨rfl, HBA.out⟩
            · as_aux_lemma =>
                have HF4 : Hid (OV w4 w1.heap.size l0.m.xt l0.m.xp) := hid (OV.on HF3.out HS4.out)
                have HW4 : Hid (w4.heap[w.heap.size]? = some (whoO a0 a1)) := hid (heapB HW3.out HS4.out (Array.getElem?_eq_some_iff.1 HW3.out).1)
                have HFL4 : Hid (w1.heap.size < w3.heap.size) := hid HF3.out.lt
                have HWL4 : Hid (w.heap.size < w3.heap.size) := hid (Array.getElem?_eq_some_iff.1 HW3.out).1
                obtain ⟨L0, hL0⟩ : ∃ z, z = allA ls l0.m.c n := ⟨_, rfl⟩
                have HL0' := hid hL0
                rw [← hL0] at HO4 HAR
                have HL0L : Hid (L0.length = n) := hid (by rw [hL0]; exact allA_len _ _ _)
                clear hL0
                obtain ⟨gb, rfl⟩ : ∃ gb, g = some ⟨gb, 0, none⟩ := by
                  rcases HO4.out.2 with ⟨e, h0⟩ | ⟨gb, cap', cur, e, _⟩
                  · exfalso; have := HL0L.out; unfold mgs at h0; rw [List.length_map] at h0; omega
                  · injection e with e1 e2 e3; exact ⟨gb, e1⟩
                have hgn : gn = n := by obtain ⟨g', c', n', e, hn'⟩ := OwnG.asSlice HO4.out; injection e with e1 e2 e3; rw [e2, hn']; unfold mgs; rw [List.length_map]; exact HL0L.out
                subst hgn
                have HGB : Hid (w3.heap.size ≤ gb) := hid (HO4.out.lt gb rfl).1
                go_wp2_with fail
                go_loopw [14, 15] (fun s13 i wr => ∃ (k nv : Nat) (bt : Nat → Bool), k ≤ gn ∧ nv ≤ k ∧ i = .int .i64 k ∧ s13 = .int .i64 nv ∧ Hid (nv = ((onW (fun j x => modB l0 (bt j) x) L0 k).take k).countP (fun x => decide (l0.m.ab ≤ x.m.ab))) ∧ Hid (OwnM wr w3.heap.size (.slice (some ⟨gb, 0, none⟩) gn gc) (mgs (onW (fun j x => modB l0 (bt j) x) L0 k))) ∧ Hid (Below w3.heap.size w4 wr)) (fun _ i _ => gn - (RowKit.intOf i).toNat)
                case atStart => exact ⟨0, 0, fun _ => false, Nat.zero_le _, Nat.le_refl _, rfl, rfl, hid rfl, hid (by rw [onW_zero]; exact HO4.out), hid (Below.refl _ _)⟩
                case round =>
                  obtain ⟨k, nv, bt, hk, hnv, rfl, rfl, HV, HOR, HBL⟩ := hrel
                  have HBR : Hid (Below w.heap.size w wr) := hid (HB4.out.trans (HBL.out.mono HB3.out.size))
                  by_cases hlt : k < gn
                  · as_aux_lemma =>
                      have hlti : ((k : Int) < gn) := by omega
                      have hk9 : k ≤ 9 := by omega
                      obtain ⟨x, hx⟩ : ∃ y, L0[k]? = some y := ⟨L0[k]'(by rw [HL0L.out]; exact hlt), List.getElem?_eq_getElem (by rw [HL0L.out]; exact hlt)⟩
                      have HX := hid hx
                      have HXM := hid (List.mem_of_getElem? hx)
                      clear hx
                      have HMX : Hid ((mgs (onW (fun j x => modB l0 (bt j) x) L0 k))[k]? = some x.m) := hid (by have := onW_at (g := (fun j x => modB l0 (bt j) x)) (k := k) HX.out; rw [if_neg (Nat.lt_irrefl k)] at this; exact at_mgs this)
                      obtain ⟨ms, hms⟩ : ∃ z, z = mgs (onW (fun j x => modB l0 (bt j) x) L0 k) := ⟨_, rfl⟩
                      rw [← hms] at HOR HMX
                      have HMS := hid hms
                      clear hms
                      have HXA : Hid (x.at w) := hid (by have := HXM.out; rw [HL0'.out] at this; unfold allA at this; obtain ⟨i, _, rfl⟩ := List.mem_map.1 this; exact mkA_at HA.out)
                      have HXS : Hid (x.short 1024) := hid (by have := HXM.out; rw [HL0'.out] at this; unfold allA at this; obtain ⟨i, _, rfl⟩ := List.mem_map.1 this; exact mkA_short HSH.out)
                      have HF5 : Hid (OV wr w1.heap.size l0.m.xt l0.m.xp) := hid (HF4.out.below HBL.out HFL4.out)
                      have a00 : wr.cell? ⟨w.heap.size, 0, none⟩ = some (.int .u16 a0) := (cellAt' ((HBL.out.block _ HWL4.out).trans HW4.out) 0).trans rfl
                      have s0 : wr.cell? ⟨gb, k * 20 + 15, none⟩ = some (.int .i64 x.m.ab) := (own_at HOR.out HMX.out).1 15 _ rfl
                      go_upto_region 17 with (first
                        | ((with_reducible refine storeR1 (x := ?rx4) (y := ?ry4) (off := 15) (m' := { x.m with ab := max x.m.ab l0.m.ab }) 3 (.int .i64 (max x.m.ab l0.m.ab)) info1i rfl ?rg4 ?ro4 ?rxx4 ?ryy4 HOR.out HMX.out rfl (by decide) ?rh4); (case rg4 => rfl); (case ro4 => rfl); (case rxx4 => rfl); (case ryy4 => rfl); intro W1 hO hU; have HOW1 : Hid (OwnM W1 w3.heap.size (.slice (some ⟨gb, 0, none⟩) gn gc) (ms.set k ({ x.m with ab := max x.m.ab l0.m.ab } : Mg))) := hid hO; have HDW1 : Hid (Below w3.heap.size w4 W1) := hid (HBL.out.trans (hU.below _ HGB.out)); clear hO hU)
                        | fail)
                      · as_aux_lemma =>
                          obtain ⟨aa, haa⟩ : ∃ z, z = max x.m.ab l0.m.ab := ⟨_, rfl⟩
                          have HMB : Hid (modB l0 true x = modA l0 aa x) := hid (by rw [haa]; rfl)
                          have HOQ : Hid (OwnM W1 w3.heap.size (.slice (some ⟨gb, 0, none⟩) gn gc) (ms.set k ({ x.m with ab := aa } : Mg))) := hid (by rw [haa]; exact HOW1.out)
                          clear haa s0 a00
                          have HMQ : Hid ((ms.set k ({ x.m with ab := aa } : Mg))[k]? = some ({ x.m with ab := aa } : Mg)) := hid (by rw [List.getElem?_set_self]; exact (List.getElem?_eq_some_iff.1 HMX.out).1)
                          have s0 : W1.cell? ⟨gb, k * 20 + 15, none⟩ = some (.int .i64 aa) := (own_at HOQ.out HMQ.out).1 15 _ rfl
                          have HF6 : Hid (OV W1 w1.heap.size l0.m.xt l0.m.xp) := hid (HF4.out.below HDW1.out HFL4.out)
                          have HGE : Hid (∀ j, j < k → (fun j x => modB l0 ((fun j => if j = k then true else bt j) j) x) j = (fun j x => modB l0 (bt j) x) j) := hid (fun j hj => by funext z; show modB l0 (if j = k then true else bt j) z = _; rw [if_neg (by omega)])
                          have HGK : Hid (modB l0 ((fun j => if j = k then true else bt j) k) x = modA l0 aa x) := hid (by show modB l0 (if k = k then true else bt k) x = _; rw [if_pos rfl, HMB.out])
                          by_cases hge : l0.m.ab ≤ aa
                          · as_aux_lemma =>
                              have HGEI : Hid (l0.m.ab ≤ aa) := hid hge
                              go_wp2_with (first
                                | ((with_reducible refine loadVl (x := ?vx5) (b := w1.heap.size) (o := 0) l0.m.xt l0.m.xp ?vg5 ?vo5 ?vxx5 ?vc5 ?_); (case vg5 => rfl); (case vo5 => rfl); (case vxx5 => rfl); (case vc5 => exact HF6.out.range))
                                | ((with_reducible refine storeRV (x := ?rx6) (y := ?ry6) (off := 16) (m' := ({ x.m with ab := aa, xt := l0.m.xt, xp := l0.m.xp } : Mg)) l0.m.xt l0.m.xp ?rg6 ?ro6 ?rxx6 ?ryy6 HOQ.out HMQ.out rfl (by decide) ?rh6); (case rg6 => rfl); (case ro6 => rfl); (case rxx6 => rfl); (case ryy6 => rfl); intro W4 hO hU; have HOW4 : Hid (OwnM W4 w3.heap.size (.slice (some ⟨gb, 0, none⟩) gn gc) ((ms.set k ({ x.m with ab := aa } : Mg)).set k ({ x.m with ab := aa, xt := l0.m.xt, xp := l0.m.xp } : Mg))) := hid hO; have HDW4 : Hid (Below w3.heap.size w4 W4) := hid (HDW1.out.trans (hU.below _ HGB.out)); clear hO hU)
                                | fail)
                              have HVN : Hid (((onW (fun j x => modB l0 ((fun j => if j = k then true else bt j) j) x) L0 (k + 1)).take (k + 1)).countP (fun x => decide (l0.m.ab ≤ x.m.ab)) = nv + 1) := hid (by rw [onW_take HX.out, onW_congr HGE.out, HGK.out, List.countP_append, ← HV.out, List.countP_cons, List.countP_nil, show decide (l0.m.ab ≤ (modA l0 aa x).m.ab) = true by unfold modA; rw [if_pos hge]; exact decide_eq_true hge]; rfl)
                              have HON : Hid (OwnM W4 w3.heap.size (.slice (some ⟨gb, 0, none⟩) gn gc) (mgs (onW (fun j x => modB l0 ((fun j => if j = k then true else bt j) j) x) L0 (k + 1)))) := hid (by rw [onW_next HX.out HGE.out, HGK.out, ← HMS.out]; unfold modA; rw [if_pos hge]; exact (by have := HOW4.out; rwa [List.set_set] at this))
                              go_roundw
                              case rel => exact ⟨k + 1, nv + 1, fun j => if j = k then true else bt j, by omega, by omega, by go_num, by first | rfl | go_num, hid HVN.out.symm, HON, HDW4⟩
                              case measure => first | omega | (simp [RowKit.intOf]; omega)
                          · as_aux_lemma =>
                              go_wp2_with fail
                              have HVN : Hid (((onW (fun j x => modB l0 ((fun j => if j = k then true else bt j) j) x) L0 (k + 1)).take (k + 1)).countP (fun x => decide (l0.m.ab ≤ x.m.ab)) = nv) := hid (by rw [onW_take HX.out, onW_congr HGE.out, HGK.out, List.countP_append, ← HV.out, List.countP_cons, List.countP_nil, show decide (l0.m.ab ≤ (modA l0 aa x).m.ab) = false by unfold modA; rw [if_neg hge]; exact decide_eq_false hge]; rfl)
                              have HON : Hid (OwnM W1 w3.heap.size (.slice (some ⟨gb, 0, none⟩) gn gc) (mgs (onW (fun j x => modB l0 ((fun j => if j = k then true else bt j) j) x) L0 (k + 1)))) := hid (by rw [onW_next HX.out HGE.out, HGK.out, ← HMS.out]; unfold modA; rw [if_neg hge]; exact HOQ.out)
                              go_roundw
                              case rel => exact ⟨k + 1, nv, fun j => if j = k then true else bt j, by omega, by omega, by go_num, by first | rfl | go_num, hid HVN.out.symm, HON, HDW1⟩
                              case measure => first | omega | (simp [RowKit.intOf]; omega)
                      · as_aux_lemma =>
                          obtain ⟨aa, haa⟩ : ∃ z, z = x.m.ab := ⟨_, rfl⟩
                          have HMB : Hid (modB l0 false x = modA l0 aa x) := hid (by rw [haa]; rfl)
                          have HOQ : Hid (OwnM wr w3.heap.size (.slice (some ⟨gb, 0, none⟩) gn gc) (ms.set k ({ x.m with ab := aa } : Mg))) := hid (by rw [haa]; exact (by have e : ms.set k x.m = ms := by { apply List.ext_getElem?; intro j; rw [List.getElem?_set]; by_cases ej : k = j; { subst ej; rw [if_pos rfl, if_pos (List.getElem?_eq_some_iff.1 HMX.out).1, HMX.out] }; { rw [if_neg ej] } }; show OwnM wr w3.heap.size _ (ms.set k x.m); rw [e]; exact HOR.out))
                          clear haa s0 a00
                          have HMQ : Hid ((ms.set k ({ x.m with ab := aa } : Mg))[k]? = some ({ x.m with ab := aa } : Mg)) := hid (by rw [List.getElem?_set_self]; exact (List.getElem?_eq_some_iff.1 HMX.out).1)
                          have s0 : wr.cell? ⟨gb, k * 20 + 15, none⟩ = some (.int .i64 aa) := (own_at HOQ.out HMQ.out).1 15 _ rfl
                          have HF6 : Hid (OV wr w1.heap.size l0.m.xt l0.m.xp) := hid (HF4.out.below HBL.out HFL4.out)
                          have HGE : Hid (∀ j, j < k → (fun j x => modB l0 ((fun j => if j = k then false else bt j) j) x) j = (fun j x => modB l0 (bt j) x) j) := hid (fun j hj => by funext z; show modB l0 (if j = k then false else bt j) z = _; rw [if_neg (by omega)])
                          have HGK : Hid (modB l0 ((fun j => if j = k then false else bt j) k) x = modA l0 aa x) := hid (by show modB l0 (if k = k then false else bt k) x = _; rw [if_pos rfl, HMB.out])
                          by_cases hge : l0.m.ab ≤ aa
                          · as_aux_lemma =>
                              have HGEI : Hid (l0.m.ab ≤ aa) := hid hge
                              go_wp2_with (first
                                | ((with_reducible refine loadVl (x := ?vx7) (b := w1.heap.size) (o := 0) l0.m.xt l0.m.xp ?vg7 ?vo7 ?vxx7 ?vc7 ?_); (case vg7 => rfl); (case vo7 => rfl); (case vxx7 => rfl); (case vc7 => exact HF6.out.range))
                                | ((with_reducible refine storeRV (x := ?rx8) (y := ?ry8) (off := 16) (m' := ({ x.m with ab := aa, xt := l0.m.xt, xp := l0.m.xp } : Mg)) l0.m.xt l0.m.xp ?rg8 ?ro8 ?rxx8 ?ryy8 HOQ.out HMQ.out rfl (by decide) ?rh8); (case rg8 => rfl); (case ro8 => rfl); (case rxx8 => rfl); (case ryy8 => rfl); intro W4 hO hU; have HOW4 : Hid (OwnM W4 w3.heap.size (.slice (some ⟨gb, 0, none⟩) gn gc) ((ms.set k ({ x.m with ab := aa } : Mg)).set k ({ x.m with ab := aa, xt := l0.m.xt, xp := l0.m.xp } : Mg))) := hid hO; have HDW4 : Hid (Below w3.heap.size w4 W4) := hid (HBL.out.trans (hU.below _ HGB.out)); clear hO hU)
                                | fail)
                              have HVN : Hid (((onW (fun j x => modB l0 ((fun j => if j = k then false else bt j) j) x) L0 (k + 1)).take (k + 1)).countP (fun x => decide (l0.m.ab ≤ x.m.ab)) = nv + 1) := hid (by rw [onW_take HX.out, onW_congr HGE.out, HGK.out, List.countP_append, ← HV.out, List.countP_cons, List.countP_nil, show decide (l0.m.ab ≤ (modA l0 aa x).m.ab) = true by unfold modA; rw [if_pos hge]; exact decide_eq_true hge]; rfl)
                              have HON : Hid (OwnM W4 w3.heap.size (.slice (some ⟨gb, 0, none⟩) gn gc) (mgs (onW (fun j x => modB l0 ((fun j => if j = k then false else bt j) j) x) L0 (k + 1)))) := hid (by rw [onW_next HX.out HGE.out, HGK.out, ← HMS.out]; unfold modA; rw [if_pos hge]; exact (by have := HOW4.out; rwa [List.set_set] at this))
                              go_roundw
                              case rel => exact ⟨k + 1, nv + 1, fun j => if j = k then false else bt j, by omega, by omega, by go_num, by first | rfl | go_num, hid HVN.out.symm, HON, HDW4⟩
                              case measure => first | omega | (simp [RowKit.intOf]; omega)
                          · as_aux_lemma =>
                              go_wp2_with fail
                              have HVN : Hid (((onW (fun j x => modB l0 ((fun j => if j = k then false else bt j) j) x) L0 (k + 1)).take (k + 1)).countP (fun x => decide (l0.m.ab ≤ x.m.ab)) = nv) := hid (by rw [onW_take HX.out, onW_congr HGE.out, HGK.out, List.countP_append, ← HV.out, List.countP_cons, List.countP_nil, show decide (l0.m.ab ≤ (modA l0 aa x).m.ab) = false by unfold modA; rw [if_neg hge]; exact decide_eq_false hge]; rfl)
                              have HON : Hid (OwnM wr w3.heap.size (.slice (some ⟨gb, 0, none⟩) gn gc) (mgs (onW (fun j x => modB l0 ((fun j => if j = k then false else bt j) j) x) L0 (k + 1)))) := hid (by rw [onW_next HX.out HGE.out, HGK.out, ← HMS.out]; unfold modA; rw [if_neg hge]; exact HOQ.out)
                              go_roundw
                              case rel => exact ⟨k + 1, nv, fun j => if j = k then false else bt j, by omega, by omega, by go_num, by first | rfl | go_num, hid HVN.out.symm, HON, HBL⟩
                              case measure => first | omega | (simp [RowKit.intOf]; omega)
                  · as_aux_lemma =>
                      have hlti : ¬ ((k : Int) < gn) := by omega
                      have HKN : Hid (k = gn) := hid (by omega)
                      obtain ⟨Ln, hLn⟩ : ∃ z, z = onW (fun j x => modB l0 (bt j) x) L0 gn := ⟨_, rfl⟩
                      have HOL : Hid (OwnM wr w3.heap.size (.slice (some ⟨gb, 0, none⟩) gn gc) (mgs Ln)) := hid (by have := HOR.out; rw [HKN.out, ← hLn] at this; exact this)
                      have HLL : Hid (Ln.length = gn) := hid (by rw [hLn, onW_len]; exact HL0L.out)
                      have HVL : Hid (nv = Ln.countP (fun x => decide (l0.m.ab ≤ x.m.ab))) := hid (by have := HV.out; rw [HKN.out, ← hLn] at this; rw [this, List.take_of_length_le (by rw [HLL.out]; omega)])
                      have HROW : Hid (Row gn l0.m.c Ln ∧ (∀ x ∈ Ln, l0.m.ab ≤ x.m.ab → x.m.xt = l0.m.xt ∧ x.a = l0.a) ∧ (∀ x ∈ Ln, x.at w ∧ x.short 1024)) := hid (by
                        have key : ∀ z ∈ Ln, ∃ (j : Nat) (x : Ms), L0[j]? = some x ∧ z = modB l0 (bt j) x := fun z hz => by
                          rw [hLn] at hz; obtain ⟨j, x, hj, e⟩ := onW_mem hz; have := (List.getElem?_eq_some_iff.1 hj).1; rw [if_pos (by have := HL0L.out; omega)] at e; exact ⟨j, x, hj, e⟩
                        have k2 : ∀ (j : Nat) (x : Ms), L0[j]? = some x → x = mkA ls l0.m.c j := fun j x hj => by
                          have hl := (List.getElem?_eq_some_iff.1 hj).1; rw [HL0L.out] at hl; rw [HL0'.out, allA_at hl] at hj; exact (Option.some.inj hj).symm
                        have hful : fullB l0.m.xt l0.a = true := HFU.out.symm
                        have hm0 : mkA ls l0.m.c 0 ∈ L0 := by rw [HL0'.out]; exact List.mem_of_getElem? (allA_at (by omega : 0 < gn))
                        have hbd : withinB l0.m.ab 1048576 = true := by
                          have h1 := (prom_parts (HAR.out _ hm0) (mkA_is ls l0.m.c 0).1).2.2.2.1
                          have e : (mkA ls l0.m.c 0).m.ab = l0.m.ab := by unfold mkA; rw [HL00.out]
                          rw [e] at h1; unfold withinB; simp; omega
                        have ms : ∀ (b : Bool) (x : Ms), (modB l0 b x).m.so = x.m.so ∧ (modB l0 b x).m.c = x.m.c ∧ (modB l0 b x).m.bal = x.m.bal ∧ (modB l0 b x).m.fr = x.m.fr := fun b x => by { unfold modB; generalize (if b = true then max x.m.ab l0.m.ab else x.m.ab) = a; unfold modA; by_cases ha : l0.m.ab ≤ a; { rw [if_pos ha]; exact ⟨rfl, rfl, rfl, rfl⟩ }; { rw [if_neg ha]; exact ⟨rfl, rfl, rfl, rfl⟩ } }
                        refine ⟨⟨HLL.out, fun z hz => ?_, fun z hz => ?_, fun z hz => ?_, fun z hz => ?_, fun i z hz => ?_⟩, fun z hz => ?_, fun z hz => ?_⟩
                        · obtain ⟨j, x, hj, rfl⟩ := key z hz; rw [(ms _ _).1, k2 j x hj]; exact (mkA_is ls l0.m.c j).1
                        · obtain ⟨j, x, hj, rfl⟩ := key z hz; exact modB_right (HAR.out x (List.mem_of_getElem? hj)) (by rw [k2 j x hj]; exact (mkA_is ls l0.m.c j).1) hful hbd
                        · obtain ⟨j, x, hj, rfl⟩ := key z hz; rw [(ms _ _).2.1, k2 j x hj]; exact (mkA_is ls l0.m.c j).2.2.2
                        · obtain ⟨j, x, hj, rfl⟩ := key z hz; rw [(ms _ _).2.2.1, k2 j x hj]; exact (mkA_is ls l0.m.c j).2.2.1
                        · have hl := (List.getElem?_eq_some_iff.1 hz).1
                          rw [HLL.out, ← HL0L.out] at hl
                          rw [hLn, onW_at (List.getElem?_eq_getElem hl), if_pos (by rw [← HL0L.out]; exact hl)] at hz
                          rw [← Option.some.inj hz, (ms _ _).2.2.2, k2 i _ (List.getElem?_eq_getElem hl)]; exact (mkA_is ls l0.m.c i).2.1
                        · obtain ⟨j, x, hj, rfl⟩ := key z hz; intro hle; unfold modB at hle ⊢; generalize (if bt j = true then max x.m.ab l0.m.ab else x.m.ab) = a at hle ⊢; unfold modA at hle ⊢; by_cases ha : l0.m.ab ≤ a; { rw [if_pos ha]; exact ⟨rfl, rfl⟩ }; { rw [if_neg ha] at hle; exact absurd hle ha }
                        · obtain ⟨j, x, hj, rfl⟩ := key z hz
                          have ha : x.at w := by rw [k2 j x hj]; exact mkA_at HA.out
                          have hs : x.short 1024 := by rw [k2 j x hj]; exact mkA_short HSH.out
                          unfold modB; generalize (if bt j = true then max x.m.ab l0.m.ab else x.m.ab) = a; unfold modA; by_cases hab : l0.m.ab ≤ a
                          · rw [if_pos hab]; exact ⟨⟨ha.1, H0A.out.2.1, ha.2.2⟩, ⟨hs.1, H0S.out.2.1, hs.2.2⟩⟩
                          · rw [if_neg hab]; exact ⟨ha, hs⟩)
                      clear hLn
                      have HBL5 : Hid (Below w3.heap.size w4 wr) := hid HBL.out
                      have HSO := hid (cSome (w := wr) a1 HHA1.out (OwnG.slG kM HOL.out) (by rw [HLL.out]; omega))
                      skip
                      have a01 : wr.cell? ⟨w.heap.size, 1, none⟩ = some (.int .u16 a1) := (cellAt' ((HBL5.out.block _ HWL4.out).trans HW4.out) 1).trans rfl
                      go_wp2_with fail
                      go_at_call 15
                      refine HSO.out.mono ?_
                      rintro e w5 ⟨bm, g2, q2, c2, rfl, hO, hB⟩
                      have HOS := hid hO
                      have HS5 := hid hB
                      have HB5 : Hid (Below w.heap.size w w5) := hid (HBR.out.trans (hB.mono HBR.out.size))
                      clear hB HSO a01
                      obtain ⟨q, hq⟩ : ∃ z, z = pick bm 0 Ln := ⟨_, rfl⟩
                      rw [← hq] at HOS hO
                      have HQS : Hid (q.Sublist Ln) := hid (by rw [hq]; exact pick_sub)
                      have hq2 : q2 = q.length := by obtain ⟨g', c', n', e, hn'⟩ := OwnG.asSlice hO; injection e with e1 e2 e3; rw [e2, hn']; unfold mgs; rw [List.length_map]
                      have hq9 : q2 ≤ 9 := by rw [hq2]; exact Nat.le_trans HQS.out.length_le (by rw [HLL.out]; exact hn9)
                      have HQ2 := hid hq2
                      clear hq hO hq2
                      obtain ⟨cl, hcl⟩ : ∃ z, z = clI (gn : Int) := ⟨_, rfl⟩
                      have hCL := fun W => rClassic_any (gn : Int) W
                      rw [← hcl] at hCL
                      have HCL := hid hcl
                      clear hcl
                      by_cases hv1 : (nv : Int) < cl
                      · as_aux_lemma =>
                          go_wp2_with (first | (go_at_call 17; refine (hCL _).mono ?_; rintro e w' ⟨rfl, rfl⟩) | (go_at_call 7; refine (cAlive15 _).mono ?_; rintro e wa ⟨rfl, hB⟩; have HBA : Hid (Below w.heap.size w wa) := hid (HB5.out.trans (hB.mono HB5.out.size)); clear hB) | fail)
                          go_ret
                          exact ⟨rfl, HBA.out⟩
                      · as_aux_lemma =>
                          have HV1 := hid hv1
                          by_cases hv2 : (q2 : Int) < cl
                          · as_aux_lemma =>
                              go_wp2_with (first | (go_at_call 17; refine (hCL _).mono ?_; rintro e w' ⟨rfl, rfl⟩) | (go_at_call 7; refine (cAlive15 _).mono ?_; rintro e wa ⟨rfl, hB⟩; have HBA : Hid (Below w.heap.size w wa) := hid (HB5.out.trans (hB.mono HB5.out.size)); clear hB) | fail)
                              go_ret
                              exact ⟨rfl, HBA.out⟩
                          · as_aux_lemma =>
                              have HV2 := hid hv2
                              have HCH : Hid (choF (gn : Int) q = ⟨1, l0.m.xt, l0.a, 0⟩) := hid (bound_left HROW.out.1 HQS.out hn3 hn9 (by rw [← HQ2.out, ← HCL.out]; have := HV2.out; omega) (by omega) HROW.out.2.1 (by rw [← HVL.out, ← HCL.out]; have := HV1.out; omega))
                              have HCHO := hid (cChoose (w := w5) (gn : Int) (OwnG.slG kM HOS.out) (fun x hx => (HROW.out.2.2 x (HQS.out.subset hx)).1.on HB5.out) (fun x hx => (HROW.out.2.2 x (HQS.out.subset hx)).2) (by rw [← HQ2.out]; omega))
                              go_wp2_with (first | (go_at_call 17; refine (hCL _).mono ?_; rintro e w' ⟨rfl, rfl⟩) | fail)
                              go_at_call 8
                              refine HCHO.out.mono ?_
                              rintro e w6 ⟨r, rfl, hs, hB⟩
                              rw [HCH.out] at hs ⊢
                              have HSR := hid hs
                              have HS6 := hid hB
                              have HB6 : Hid (Below w.heap.size w w6) := hid (HB5.out.trans (hB.mono HB5.out.size))
                              clear hs hB HCHO
                              go_upto_region 24 with (first
                                | ((with_reducible refine storeCh (x := ?cx9) (y := ?cy9) (b := w6.heap.size) 1 l0.m.xt r ?cg9 ?co9 ?cxx9 ?cyy9 ?cc9 ?ch9); (case cg9 => rfl); (case co9 => rfl); (case cxx9 => rfl); (case cyy9 => rfl); (case cc9 => exact roomCZ _); intro w7 hO hU; have HX7 : Hid (OC w7 w6.heap.size 1 l0.m.xt r) := hid hO; have HS7 : Hid (Below w6.heap.size w6 w7) := hid ((laid1_b w6 zeroCc).trans (hU.below w6.heap.size (Nat.le_refl _))); clear hO hU)
                                | fail)
                              have HB7 : Hid (Below w.heap.size w w7) := hid (HB6.out.trans (HS7.out.mono HB6.out.size))
                              have HF7 : Hid (OV w7 w1.heap.size l0.m.xt l0.m.xp) := hid (OV.on (OV.on (OV.on (HF4.out.below HBL5.out HFL4.out) HS5.out) HS6.out) HS7.out)
                              have HRC : Hid (w7.rangeAt w6.heap.size 1 (vcs l0.m.xt r)) := hid (fun i u hu => by have hh := HX7.out.range; rcases i with _ | _ | i; exact (by have := hh 1 (.int .i64 l0.m.xt) rfl; obtain rfl := Option.some.inj hu; rwa [Nat.zero_add] at this); exact (by have := hh 2 (.slice r.a r.n r.c) rfl; obtain rfl := Option.some.inj hu; rwa [Nat.zero_add] at this); simp [vcs] at hu)
                              have HM1 := hid (rSameValue (w := w7) l0.m.xt (HSR.out.on HS7.out) (H0A.out.2.1.on HB7.out) (Nat.le_trans H0S.out.2.1 (by decide)))
                              go_upto_region 25 with (first
                                | ((with_reducible refine loadVl (x := ?vx10) (b := w6.heap.size) (o := 1) l0.m.xt r ?vg10 ?vo10 ?vxx10 ?vc10 ?_); (case vg10 => rfl); (case vo10 => rfl); (case vxx10 => rfl); (case vc10 => exact HRC.out))
                                | ((with_reducible refine loadVl (x := ?vx11) (b := w1.heap.size) (o := 0) l0.m.xt l0.m.xp ?vg11 ?vo11 ?vxx11 ?vc11 ?_); (case vg11 => rfl); (case vo11 => rfl); (case vxx11 => rfl); (case vc11 => exact HF7.out.range))
                                | (go_at_call 12; refine HM1.out.mono ?_; rintro e w8 ⟨rfl, hB⟩; have HS8 := hid hB; clear hB)
                                | fail)
                              have HB8 : Hid (Below w.heap.size w w8) := hid (HB7.out.trans (HS8.out.mono HB7.out.size))
                              have HX8 : Hid (OC w8 w6.heap.size 1 l0.m.xt r) := hid (heapB HX7.out HS8.out (Array.getElem?_eq_some_iff.1 HX7.out).1)
                              go_wp2_with (first | (go_at_call 7; refine (cAlive15 _).mono ?_; rintro e w12 ⟨rfl, hB⟩; have HB12 : Hid (Below w.heap.size w w12) := hid (HB8.out.trans (hB.mono HB8.out.size)); have k0 : w12.cell? ⟨w6.heap.size, 0, none⟩ = some (.int .i64 1) := (cellAt' (heapB HX8.out hB (Array.getElem?_eq_some_iff.1 HX8.out).1) 0).trans rfl; clear hB) | fail)
                              go_ret
                              exact ⟨by first | rfl | simp, HB12.out⟩
end Go.Proofs.Ytbcmhnaiabifjaa
