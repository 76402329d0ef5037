import Derived.Test.YtbcmhnaiabifjaaG32
namespace Go.Proofs.Ytbcmhnaiabifjaa
set_option linter.unusedVariables false
open Go.RowKit
open Go.Lib (hid)
set_option maxHeartbeats 64000000 in
set_option maxRecDepth 100000 in
theorem cChooseFast {v : Value} {ls : List Ms} {w : World} {sz a0 a1 : Int} (hsz : 0 ≤ sz ∧ sz ≤ 255) (ha0 : 0 ≤ a0 ∧ a0 ≤ 65535) (ha1 : 0 ≤ a1 ∧ a1 ≤ 65535) (h : SlM w v (mgs ls)) (hA : ∀ m ∈ ls, m.at w) (hl : ls.length ≤ 9223372036854775807) : Calls Try.prog 4 #[.int .u8 sz, v, .agg #[.int .u16 a0, .int .u16 a1]] w fun e w' => e = .returned (.bool true) ∧ Below w.heap.size w w' := by
  obtain ⟨n, hn3, hn9, hn7⟩ : ∃ n : Nat, 3 ≤ n ∧ n ≤ 9 ∧ sz.tmod 7 = (n : Int) - 3 := ⟨(sz.tmod 7 + 3).toNat, by have := Int.tmod_nonneg 7 hsz.1; omega, by have := Int.tmod_lt_of_pos sz (show (0 : Int) < 7 by decide); have := Int.tmod_nonneg 7 hsz.1; omega, by have := Int.tmod_nonneg 7 hsz.1; omega⟩
  have HB0 : Hid (Below w.heap.size w (w.alloc (whoO a0 a1))) := hid (laid1_b w _)
  have HW0 : Hid ((w.alloc (whoO a0 a1)).heap[w.heap.size]? = some (whoO a0 a1)) := hid (laid1_0 w _)
  have hF := cFitsMs (h.on HB0.out) (fun m hm => (hA m hm).on HB0.out) hl
  have hsl := h
  have HA := hid hA
  obtain ⟨b, o, cap, a, rfl, ha, hc, hb⟩ := h
  have hlm : (mgs ls).length = ls.length := by unfold mgs; rw [List.length_map]
  rw [hlm] at ha hb hF hsl ⊢
  obtain ⟨m, hm⟩ : ∃ m, m = ls.length := ⟨_, rfl⟩
  rw [← hm] at hF hsl ha hb hl ⊢
  have HSL := hid hsl
  have HCC := hid hc
  have HN := hid hm
  have HHA1 := hid ha1
  clear hc hA hm hsl hlm
  go_enter Try.func4, Try.ntmps4
  go_wp2_with fail
  go_at_call 6
  refine hF.mono ?_
  rintro e w1 ⟨hf, hB⟩
  have HS1 := hid hB
  have HB1 : Hid (Below w.heap.size w w1) := hid (HB0.out.trans (hB.mono HB0.out.size))
  have HW1 : Hid (w1.heap[w.heap.size]? = some (whoO a0 a1)) := hid (heapB HW0.out hB (by simp))
  clear hB hF
  rcases hf with rfl | ⟨rfl, hl20, hsh⟩
  · as_aux_lemma =>
      go_wp2_with (first | (go_at_call 7; refine (cAlive15 _).mono ?_; rintro e wa ⟨rfl, hB⟩; have HBA : Hid (Below w.heap.size w wa) := hid (HB1.out.trans (hB.mono HB1.out.size)); clear hB) | fail)
      go_ret
      exact ⟨rfl, HBA.out⟩
  · have HSH : Hid (∀ m ∈ ls, m.short 1024) := hid (fun m hm => by have := hsh m hm; exact ⟨Nat.le_trans this.1 (by decide), Nat.le_trans this.2.1 (by decide), Nat.le_trans this.2.2 (by decide)⟩)
    have HL20 : Hid (m ≤ 20) := hid hl20
    clear hsh hl20 hl
    by_cases hm1 : m < 1
    · as_aux_lemma =>
        have hm1i : (m : Int) < 1 := by omega
        go_wp2_with (first | (go_at_call 7; refine (cAlive15 _).mono ?_; rintro e wa ⟨rfl, hB⟩; have HBA : Hid (Below w.heap.size w wa) := hid (HB1.out.trans (hB.mono HB1.out.size)); clear hB) | fail)
        go_ret
        exact ⟨rfl, HBA.out⟩
    · have hm1i : ¬ (m : Int) < 1 := by omega
      have hm0 : 0 < m := by omega
      have HBW := hid (hb hm0)
      obtain rfl := ha hm0
      obtain ⟨l0, hl0⟩ : ∃ y, ls[0]? = some y := ⟨ls[0]'(by rw [← HN.out]; exact hm0), List.getElem?_eq_getElem (by rw [← HN.out]; exact hm0)⟩
      have HL0 := hid (List.mem_of_getElem? hl0)
      have HR0 : Hid (∀ W, Below w.heap.size w W → W.rangeAt b o l0.m.list) := hid (fun W hW => by have := (HCC.out.on hW fun _ => HBW.out) 0 l0.m (at_mgs hl0); rwa [Nat.zero_mul, Nat.add_zero] at this)
      clear hl0
      have H0A := hid (HA.out l0 HL0.out)
      have H0S := hid (HSH.out l0 HL0.out)
      go_upto_region 6 with (first
        | ((with_reducible refine loadVl (x := ?vx1) (b := b) (o := (o + 18)) l0.m.ft l0.m.fp ?vg1 ?vo1 ?vxx1 ?vc1 ?_); (case vg1 => rfl); (case vo1 => rfl); (case vxx1 => rfl); (case vc1 => exact rngF (HR0.out _ HB1.out)))
        | ((with_reducible refine storeV (x := ?wx2) (y := ?wy2) (b := w1.heap.size) l0.m.ft l0.m.fp ?wg2 ?wo2 ?wxx2 ?wyy2 ?wc2 ?wh2); (case wg2 => rfl); (case wo2 => rfl); (case wxx2 => rfl); (case wyy2 => rfl); (case wc2 => exact (roomVZ _)); intro w2 hO hU; have HF2 : Hid (OV w2 w1.heap.size l0.m.ft l0.m.fp) := hid hO; have HS2 : Hid (Below w1.heap.size w1 w2) := hid ((laid1_b w1 zeroVc).trans (hU.below w1.heap.size (Nat.le_refl _))); clear hO hU)
        | fail)
      have HB2 : Hid (Below w.heap.size w w2) := hid (HB1.out.trans (HS2.out.mono HB1.out.size))
      obtain ⟨fu, hfu⟩ : ∃ z, z = fullB l0.m.ft l0.f := ⟨_, rfl⟩
      have HFU := hid hfu
      have HCFU : Hid (Calls Try.prog 13 #[.agg (varr l0.m.ft l0.m.fp)] w2 fun e w' => e = .returned (.bool fu) ∧ Below w2.heap.size w2 w') := hid (by rw [hfu]; exact rFull _ (H0A.out.2.2.on HB2.out) H0S.out.2.2)
      clear hfu
      go_upto_region 7 with (first
        | ((with_reducible refine loadVl (x := ?vx3) (b := w1.heap.size) (o := 0) l0.m.ft l0.m.fp ?vg3 ?vo3 ?vxx3 ?vc3 ?_); (case vg3 => rfl); (case vo3 => rfl); (case vxx3 => rfl); (case vc3 => exact HF2.out.range))
        | (go_at_call 13; refine HCFU.out.mono ?_; rintro e w3 ⟨rfl, hB⟩; have HS3 := hid hB; clear hB)
        | fail)
      have HB3 : Hid (Below w.heap.size w w3) := hid (HB2.out.trans (HS3.out.mono HB2.out.size))
      have HF3 : Hid (OV w3 w1.heap.size l0.m.ft l0.m.fp) := hid (OV.on HF2.out HS3.out)
      have HW3 : Hid (w3.heap[w.heap.size]? = some (whoO a0 a1)) := hid (heapB (heapB HW1.out HS2.out (Array.getElem?_eq_some_iff.1 HW1.out).1) HS3.out (Nat.lt_of_lt_of_le (Array.getElem?_eq_some_iff.1 HW1.out).1 HS2.out.size))
      have HALL := hid (cAll (w := w3) n hn9 l0.m.c (HSL.out.on HB3.out) (fun x hx => (HA.out x hx).on HB3.out) HSH.out (by have := HL20.out; have := HN.out; omega))
      have c0 : w3.cell? ⟨b, o + 4, none⟩ = some (.int .i64 l0.m.c.i) := HR0.out _ HB3.out 4 _ rfl
      have c1 : w3.cell? ⟨b, o + 5, none⟩ = some (.int .i64 l0.m.c.k) := HR0.out _ HB3.out 5 _ rfl
      have c2 : w3.cell? ⟨b, o + 6, none⟩ = some (.int .i64 l0.m.c.s) := HR0.out _ HB3.out 6 _ rfl
      have c3 : w3.cell? ⟨b, o + 7, none⟩ = some (.int .i64 l0.m.c.t) := HR0.out _ HB3.out 7 _ rfl
      have c4 : w3.cell? ⟨b, o + 8, none⟩ = some (.int .i64 l0.m.c.d) := HR0.out _ HB3.out 8 _ rfl
      have c5 : w3.cell? ⟨b, o + 9, none⟩ = some (.int .i64 l0.m.c.p) := HR0.out _ HB3.out 9 _ rfl
      have c6 : w3.cell? ⟨b, o + 10, none⟩ = some (.int .i64 l0.m.c.q) := HR0.out _ HB3.out 10 _ rfl
      go_wp2_with fail
      go_at_call 14
      refine HALL.out.mono ?_
      rintro e w4 ⟨hP, hB⟩
      have HS4 := hid hB
      have HB4 : Hid (Below w.heap.size w w4) := hid (HB3.out.trans (hB.mono HB3.out.size))
      clear hB HALL c0 c1 c2 c3 c4 c5 c6
      rcases hP with rfl | ⟨g, gn, gc, rfl, hO, hR⟩
      · as_aux_lemma =>
          rcases fu with _ | _
          · as_aux_lemma =>
              go_wp2_with (first | (go_at_call 7; refine (cAlive15 _).mono ?_; rintro e wa ⟨rfl, hB⟩; have HBA : Hid (Below w.heap.size w wa) := hid (HB4.out.trans (hB.mono HB4.out.size)); clear hB) | fail)
              go_ret
              exact ⟨rfl, HBA.out⟩
          · as_aux_lemma =>
              go_wp2_with (first | (go_at_call 7; refine (cAlive15 _).mono ?_; rintro e wa ⟨rfl, hB⟩; have HBA : Hid (Below w.heap.size w wa) := hid (HB4.out.trans (hB.mono HB4.out.size)); clear hB) | fail)
              go_ret
              exact ⟨rfl, HBA.out⟩
      · have HO4 := hid hO
        have HAR := hid hR
        clear hO hR
        rcases fu with _ | _
        · as_aux_lemma =>
            go_wp2_with (first | (go_at_call 7; refine (cAlive15 _).mono ?_; rintro e wa ⟨rfl, hB⟩; have HBA : Hid (Below w.heap.size w wa) := hid (HB4.out.trans (hB.mono HB4.out.size)); clear hB) | fail)
            go_ret
            exact ⟨rfl, HBA.out⟩
        · as_aux_lemma =>
            have HF4 : Hid (OV w4 w1.heap.size l0.m.ft l0.m.fp) := hid (OV.on HF3.out HS4.out)
            have HW4 : Hid (w4.heap[w.heap.size]? = some (whoO a0 a1)) := hid (heapB HW3.out HS4.out (Array.getElem?_eq_some_iff.1 HW3.out).1)
            have HFL4 : Hid (w1.heap.size < w3.heap.size) := hid HF3.out.lt
            have HWL4 : Hid (w.heap.size < w3.heap.size) := hid (Array.getElem?_eq_some_iff.1 HW3.out).1
            obtain ⟨L0, hL0⟩ : ∃ z, z = allA ls l0.m.c n := ⟨_, rfl⟩
            have HL0' := hid hL0
            rw [← hL0] at HO4 HAR
            have HL0L : Hid (L0.length = n) := hid (by rw [hL0]; exact allA_len _ _ _)
            clear hL0
            obtain ⟨gb, rfl⟩ : ∃ gb, g = some ⟨gb, 0, none⟩ := by
              rcases HO4.out.2 with ⟨e, h0⟩ | ⟨gb, cap', cur, e, _⟩
              · exfalso; have := HL0L.out; unfold mgs at h0; rw [List.length_map] at h0; omega
              · injection e with e1 e2 e3; exact ⟨gb, e1⟩
            have hgn : gn = n := by obtain ⟨g', c', n', e, hn'⟩ := OwnG.asSlice HO4.out; injection e with e1 e2 e3; rw [e2, hn']; unfold mgs; rw [List.length_map]; exact HL0L.out
            subst hgn
            have HGB : Hid (w3.heap.size ≤ gb) := hid (HO4.out.lt gb rfl).1
            go_wp2_with fail
            go_loopw [13, 14] (fun s13 i wr => ∃ (k nv : Nat) (bt : Nat → Bool), k ≤ gn ∧ nv ≤ k ∧ i = .int .i64 k ∧ s13 = .int .i64 nv ∧ Hid (nv = votesF ((onW (fun j x => modF l0 (bt j) x) L0 k).take k) l0) ∧ Hid (OwnM wr w3.heap.size (.slice (some ⟨gb, 0, none⟩) gn gc) (mgs (onW (fun j x => modF l0 (bt j) x) L0 k))) ∧ Hid (Below w3.heap.size w4 wr)) (fun _ i _ => gn - (RowKit.intOf i).toNat)
            case atStart => exact ⟨0, 0, fun _ => false, Nat.zero_le _, Nat.le_refl _, rfl, rfl, hid rfl, hid (by rw [onW_zero]; exact HO4.out), hid (Below.refl _ _)⟩
            case round =>
              obtain ⟨k, nv, bt, hk, hnv, rfl, rfl, HV, HOR, HBL⟩ := hrel
              have HBR : Hid (Below w.heap.size w wr) := hid (HB4.out.trans (HBL.out.mono HB3.out.size))
              by_cases hlt : k < gn
              · as_aux_lemma =>
                  have hlti : ((k : Int) < gn) := by omega
                  have hk9 : k ≤ 9 := by omega
                  obtain ⟨x, hx⟩ : ∃ y, L0[k]? = some y := ⟨L0[k]'(by rw [HL0L.out]; exact hlt), List.getElem?_eq_getElem (by rw [HL0L.out]; exact hlt)⟩
                  have HX := hid hx
                  have HXM := hid (List.mem_of_getElem? hx)
                  clear hx
                  have HMX : Hid ((mgs (onW (fun j x => modF l0 (bt j) x) L0 k))[k]? = some x.m) := hid (by have := onW_at (g := (fun j x => modF l0 (bt j) x)) (k := k) HX.out; rw [if_neg (Nat.lt_irrefl k)] at this; exact at_mgs this)
                  obtain ⟨ms, hms⟩ : ∃ z, z = mgs (onW (fun j x => modF l0 (bt j) x) L0 k) := ⟨_, rfl⟩
                  rw [← hms] at HOR HMX
                  have HMS := hid hms
                  clear hms
                  have HXA : Hid (x.at w) := hid (by have := HXM.out; rw [HL0'.out] at this; unfold allA at this; obtain ⟨i, _, rfl⟩ := List.mem_map.1 this; exact mkA_at HA.out)
                  have HXS : Hid (x.short 1024) := hid (by have := HXM.out; rw [HL0'.out] at this; unfold allA at this; obtain ⟨i, _, rfl⟩ := List.mem_map.1 this; exact mkA_short HSH.out)
                  have HBp := hid HBL.out
                  go_upto_region 15 with (first
                    | ((with_reducible refine storeR1 (x := ?rx4) (y := ?ry4) (off := 13) (m' := { x.m with fl := false }) 4 (.bool false) info1b rfl ?rg4 ?ro4 ?rxx4 ?ryy4 HOR.out HMX.out rfl (by decide) ?rh4); (case rg4 => rfl); (case ro4 => rfl); (case rxx4 => rfl); (case ryy4 => rfl); intro W1 hO hU; have HOW1 : Hid (OwnM W1 w3.heap.size (.slice (some ⟨gb, 0, none⟩) gn gc) (ms.set k ({ x.m with fl := false } : Mg))) := hid hO; have HDW1 : Hid (Below w3.heap.size w4 W1) := hid (HBp.out.trans (hU.below _ HGB.out)); clear hO hU)
                    | fail)
                  have HMW1 : Hid ((ms.set k ({ x.m with fl := false } : Mg))[k]? = some ({ x.m with fl := false } : Mg)) := hid (by rw [List.getElem?_set_self]; exact (List.getElem?_eq_some_iff.1 HMX.out).1)
                  clear HBp
                  have HBp := hid HDW1.out
                  go_upto_region 16 with (first
                    | ((with_reducible refine storeR1 (x := ?rx5) (y := ?ry5) (off := 15) (m' := { x.m with fl := false, ab := 0 }) 3 (.int .i64 0) info1i rfl ?rg5 ?ro5 ?rxx5 ?ryy5 HOW1.out HMW1.out rfl (by decide) ?rh5); (case rg5 => rfl); (case ro5 => rfl); (case rxx5 => rfl); (case ryy5 => rfl); intro W2 hO hU; have HOW2 : Hid (OwnM W2 w3.heap.size (.slice (some ⟨gb, 0, none⟩) gn gc) ((ms.set k ({ x.m with fl := false } : Mg)).set k ({ x.m with fl := false, ab := 0 } : Mg))) := hid hO; have HDW2 : Hid (Below w3.heap.size w4 W2) := hid (HBp.out.trans (hU.below _ HGB.out)); clear hO hU)
                    | fail)
                  have HMW2 : Hid (((ms.set k ({ x.m with fl := false } : Mg)).set k ({ x.m with fl := false, ab := 0 } : Mg))[k]? = some ({ x.m with fl := false, ab := 0 } : Mg)) := hid (by rw [List.getElem?_set_self]; exact (List.getElem?_eq_some_iff.1 HMW1.out).1)
                  clear HBp
                  have HBp := hid HDW2.out
                  go_upto_region 17 with (first
                    | ((with_reducible refine storeRV (x := ?rx7) (y := ?ry7) (off := 16) (m' := { x.m with fl := false, ab := 0, xt := 0, xp := zS }) 0 zS ?rg7 ?ro7 ?rxx7 ?ryy7 HOW2.out HMW2.out rfl (by decide) ?rh7); (case rg7 => rfl); (case ro7 => rfl); (case rxx7 => rfl); (case ryy7 => rfl); intro W3 hO hU; have HOW3 : Hid (OwnM W3 w3.heap.size (.slice (some ⟨gb, 0, none⟩) gn gc) (((ms.set k ({ x.m with fl := false } : Mg)).set k ({ x.m with fl := false, ab := 0 } : Mg)).set k ({ x.m with fl := false, ab := 0, xt := 0, xp := zS } : Mg))) := hid hO; have HDW3 : Hid (Below w3.heap.size w4 W3) := hid (HBp.out.trans (hU.below _ HGB.out)); clear hO hU)
                    | fail)
                  have HOX3 : Hid (OwnM W3 w3.heap.size (.slice (some ⟨gb, 0, none⟩) gn gc) (ms.set k ({ x.m with fl := false, ab := 0, xt := 0, xp := zS } : Mg))) := hid (by have := HOW3.out; rwa [List.set_set, List.set_set] at this)
                  have HMX3 : Hid ((ms.set k ({ x.m with fl := false, ab := 0, xt := 0, xp := zS } : Mg))[k]? = some ({ x.m with fl := false, ab := 0, xt := 0, xp := zS } : Mg)) := hid (by rw [List.getElem?_set_self]; exact (List.getElem?_eq_some_iff.1 HMX.out).1)
                  clear HOW3 HOW2 HOW1 HMW1 HMW2
                  have HF5 : Hid (OV W3 w1.heap.size l0.m.ft l0.m.fp) := hid (HF4.out.below HDW3.out HFL4.out)
                  have a00 : W3.cell? ⟨w.heap.size, 0, none⟩ = some (.int .u16 a0) := (cellAt' ((HDW3.out.block _ HWL4.out).trans HW4.out) 0).trans rfl
                  go_wp2_with (first
                    | ((with_reducible refine loadVl (x := ?vx8) (b := w1.heap.size) (o := 0) l0.m.ft l0.m.fp ?vg8 ?vo8 ?vxx8 ?vc8 ?_); (case vg8 => rfl); (case vo8 => rfl); (case vxx8 => rfl); (case vc8 => exact HF5.out.range))
                    | ((with_reducible refine storeRV (x := ?rx9) (y := ?ry9) (off := 18) (m' := { x.m with fl := false, ab := 0, xt := 0, xp := zS, ft := l0.m.ft, fp := l0.m.fp }) l0.m.ft l0.m.fp ?rg9 ?ro9 ?rxx9 ?ryy9 HOX3.out HMX3.out rfl (by decide) ?rh9); (case rg9 => rfl); (case ro9 => rfl); (case rxx9 => rfl); (case ryy9 => rfl); intro W4 hO hU; have HOW4 : Hid (OwnM W4 w3.heap.size (.slice (some ⟨gb, 0, none⟩) gn gc) ((ms.set k ({ x.m with fl := false, ab := 0, xt := 0, xp := zS } : Mg)).set k ({ x.m with fl := false, ab := 0, xt := 0, xp := zS, ft := l0.m.ft, fp := l0.m.fp } : Mg))) := hid hO; have HDW4 : Hid (Below w3.heap.size w4 W4) := hid (HDW3.out.trans (hU.below _ HGB.out)); clear hO hU)
                    | fail)
                  · as_aux_lemma =>
                      obtain ⟨xx, hxx⟩ : ∃ z, z = modF l0 true x := ⟨_, rfl⟩
                      have HXX := hid hxx
                      have HOQ : Hid (OwnM W4 w3.heap.size (.slice (some ⟨gb, 0, none⟩) gn gc) (ms.set k xx.m)) := hid (by rw [hxx]; exact (by have := HOW4.out; rwa [List.set_set] at this))
                      have HMQ : Hid ((ms.set k xx.m)[k]? = some xx.m) := hid (by rw [List.getElem?_set_self]; exact (List.getElem?_eq_some_iff.1 HMX.out).1)
                      have HBW5 : Hid (Below w.heap.size w W4) := hid (HB4.out.trans (HDW4.out.mono HB3.out.size))
                      have HXXA : Hid (Sl W4 xx.m.fp.v xx.f) := hid (by rw [hxx]; exact H0A.out.2.2.on HBW5.out)
                      have HXXS : Hid (xx.f.length ≤ 1024) := hid (by rw [hxx]; exact H0S.out.2.2)
                      clear hxx
                      obtain ⟨sb, hsb⟩ : ∃ z, z = (decide (xx.m.ft = l0.m.ft) && sameB xx.f l0.f) := ⟨_, rfl⟩
                      have HSB := hid hsb
                      have HF6 : Hid (OV W4 w1.heap.size l0.m.ft l0.m.fp) := hid (HF4.out.below HDW4.out HFL4.out)
                      have HSM : Hid (∀ W, Below W4.heap.size W4 W → Calls Try.prog 12 #[.agg (varr xx.m.ft xx.m.fp), .agg (varr l0.m.ft l0.m.fp)] W fun e w' => e = .returned (.bool sb) ∧ Below W.heap.size W w') := hid (fun W hW => by rw [hsb]; exact rSameVG _ _ (HXXA.out.on hW) ((H0A.out.2.2.on HBW5.out).on hW) (Nat.le_trans HXXS.out (by decide)) (Nat.le_trans H0S.out.2.2 (by decide)))
                      clear hsb
                      obtain ⟨rg, fz, th, hgB, hgL⟩ := own_at HOQ.out HMQ.out
                      have HRG := hid rg
                      have HGL := hid hgL
                      clear rg fz th hgB hgL
                      refine rh_start (S := fun W => Below W4.heap.size W4 W) (n := 8) (listed := #[false, false, false, false, false, false, false, false]) (by kernel_rfl) rfl rfl ?_
                      have HS0 : Hid (Below W4.heap.size W4 W4.drew) := hid (belowDrew (Below.refl _ _))
                      generalize W4.drew = wd at HS0 ⊢
                      refine rh_takeS (i := 0) (o := ?o10) (v := ?v10) (listed' := ?l10) (a' := ?a10) ?hi10 (by kernel_rfl) (by kernel_rfl) (by kernel_rfl) ?hq10 ?hl10 ?hw10 ?hv10 ?ha10 HS0.out ?hh10
                      case hi10 => (simp only [List.getElem?_toArray, List.getElem?_cons_zero]; try rfl)
                      case hq10 => exact fun _ _ _ h => h
                      case hl10 => (simp only [List.setIfInBounds_toArray, List.set_cons_zero]; try rfl)
                      case hw10 => rfl
                      case hv10 =>
                        intro W hW
                        skip
                        go_simp
                        try with_reducible rfl
                      case ha10 => (simp only [Act.put, List.setIfInBounds_toArray, List.set_cons_succ, List.set_cons_zero]; try rfl)
                      refine rh_takeS (i := 1) (o := ?o11) (v := ?v11) (listed' := ?l11) (a' := ?a11) ?hi11 (by kernel_rfl) (by kernel_rfl) (by kernel_rfl) ?hq11 ?hl11 ?hw11 ?hv11 ?ha11 HS0.out ?hh11
                      case hi11 => (simp only [List.getElem?_toArray, List.getElem?_cons_succ, List.getElem?_cons_zero]; try rfl)
                      case hq11 => exact fun _ _ _ h => h
                      case hl11 => (simp only [List.setIfInBounds_toArray, List.set_cons_succ, List.set_cons_zero]; try rfl)
                      case hw11 => rfl
                      case hv11 =>
                        intro W hW
                        skip
                        go_simp
                        try with_reducible rfl
                      case ha11 => (simp only [Act.put, List.setIfInBounds_toArray, List.set_cons_succ, List.set_cons_zero]; try rfl)
                      refine rh_takeS (i := 2) (o := ?o12) (v := ?v12) (listed' := ?l12) (a' := ?a12) ?hi12 (by kernel_rfl) (by kernel_rfl) (by kernel_rfl) ?hq12 ?hl12 ?hw12 ?hv12 ?ha12 HS0.out ?hh12
                      case hi12 => (simp only [List.getElem?_toArray, List.getElem?_cons_succ, List.getElem?_cons_zero]; try rfl)
                      case hq12 => exact fun _ _ _ h => h
                      case hl12 => (simp only [List.setIfInBounds_toArray, List.set_cons_succ, List.set_cons_zero]; try rfl)
                      case hw12 => rfl
                      case hv12 =>
                        intro W hW
                        skip
                        go_simp
                        try with_reducible rfl
                      case ha12 => (simp only [Act.put, List.setIfInBounds_toArray, List.set_cons_succ, List.set_cons_zero]; try rfl)
                      refine rh_takeS (i := 3) (o := ?o13) (v := ?v13) (listed' := ?l13) (a' := ?a13) ?hi13 (by kernel_rfl) (by kernel_rfl) (by kernel_rfl) ?hq13 ?hl13 ?hw13 ?hv13 ?ha13 HS0.out ?hh13
                      case hi13 => (simp only [List.getElem?_toArray, List.getElem?_cons_succ, List.getElem?_cons_zero]; try rfl)
                      case hq13 => exact fun _ _ _ h => h
                      case hl13 => (simp only [List.setIfInBounds_toArray, List.set_cons_succ, List.set_cons_zero]; try rfl)
                      case hw13 => rfl
                      case hv13 =>
                        intro W hW
                        skip
                        go_simp
                        try with_reducible rfl
                      case ha13 => (simp only [Act.put, List.setIfInBounds_toArray, List.set_cons_succ, List.set_cons_zero]; try rfl)
                      refine rh_load (i := 4) (o := ?o14) (cs := vcs xx.m.ft xx.m.fp) (T := 28) (x := ?x14) (b := ?b14) (q := ?q14) (listed' := ?l14) (a' := ?a14) ?hi14 (by kernel_rfl) (by kernel_rfl) (by kernel_rfl) ?hq14 ?hl14 ?hg14 ?ho14 ?hx14 ?hc14 Try.underlying28 rfl (infoVl xx.m.ft xx.m.fp) ?ha14 HS0.out ?hh14
                      case hi14 => (simp only [List.getElem?_toArray, List.getElem?_cons_succ, List.getElem?_cons_zero]; try rfl)
                      case hq14 => exact fun _ _ _ h => h
                      case hl14 => (simp only [List.setIfInBounds_toArray, List.set_cons_succ, List.set_cons_zero]; try rfl)
                      case hg14 => rfl
                      case ho14 => rfl
                      case hx14 => rfl
                      case hc14 => exact fun W hW => rngF (fun i u hu => (hW.cell HGL.out).trans (HRG.out i u hu))
                      case ha14 => (show Act.put _ _ (Value.agg (varr xx.m.ft xx.m.fp)) = _); (simp only [Act.put, List.setIfInBounds_toArray, List.set_cons_succ, List.set_cons_zero]; try rfl)
                      refine rh_load (i := 5) (o := ?o15) (cs := vcs l0.m.ft l0.m.fp) (T := 28) (x := ?x15) (b := ?b15) (q := ?q15) (listed' := ?l15) (a' := ?a15) ?hi15 (by kernel_rfl) (by kernel_rfl) (by kernel_rfl) ?hq15 ?hl15 ?hg15 ?ho15 ?hx15 ?hc15 Try.underlying28 rfl (infoVl l0.m.ft l0.m.fp) ?ha15 HS0.out ?hh15
                      case hi15 => (simp only [List.getElem?_toArray, List.getElem?_cons_succ, List.getElem?_cons_zero]; try rfl)
                      case hq15 => exact fun _ _ _ h => h
                      case hl15 => (simp only [List.setIfInBounds_toArray, List.set_cons_succ, List.set_cons_zero]; try rfl)
                      case hg15 => rfl
                      case ho15 => rfl
                      case hx15 => rfl
                      case hc15 => exact fun W hW => OV.range (HF6.out.on hW)
                      case ha15 => (show Act.put _ _ (Value.agg (varr l0.m.ft l0.m.fp)) = _); (simp only [Act.put, List.setIfInBounds_toArray, List.set_cons_succ, List.set_cons_zero]; try rfl)
                      refine wpAnyH_ready (rs := [6]) (by kernel_rfl) (by simp) ?_
                      refine rh_cons (i := 6) (o := ?o16) (listed' := ?l16) ?hi16 ?hl16 ?hg16 ?hh16 ?hs16
                      case hi16 => (simp only [List.getElem?_toArray, List.getElem?_cons_succ, List.getElem?_cons_zero]; try rfl)
                      case hl16 => (simp only [List.setIfInBounds_toArray, List.set_cons_succ, List.set_cons_zero]; try rfl)
                      case hg16 => rfl
                      case hs16 => exact AllReadyH.nil
                      intro K hK
                      go_simp
                      refine (HSM.out _ HS0.out).mono ?_
                      rintro e w9 ⟨rfl, hB⟩
                      have HS9 := hid (HS0.out.trans (hB.mono HS0.out.size))
                      clear hB
                      refine hK.out _ _ HS9.out ?_
                      clear hK K
                      refine rh_takeS (i := 7) (o := ?o17) (v := ?v17) (listed' := ?l17) (a' := ?a17) ?hi17 (by kernel_rfl) (by kernel_rfl) (by kernel_rfl) ?hq17 ?hl17 ?hw17 ?hv17 ?ha17 HS9.out ?hh17
                      case hi17 => (simp only [List.getElem?_toArray, List.getElem?_cons_succ, List.getElem?_cons_zero]; try rfl)
                      case hq17 => exact fun _ _ _ h => h
                      case hl17 => (simp only [List.setIfInBounds_toArray, List.set_cons_succ, List.set_cons_zero]; try rfl)
                      case hw17 => rfl
                      case hv17 =>
                        intro W hW
                        skip
                        go_simp
                        try with_reducible rfl
                      case ha17 => (simp only [Act.put, List.setIfInBounds_toArray, List.set_cons_succ, List.set_cons_zero]; try rfl)
                      refine wpAnyH_done (by kernel_rfl) ?_ _
                      have HGE : Hid (∀ j, j < k → (fun j x => modF l0 ((fun j => if j = k then true else bt j) j) x) j = (fun j x => modF l0 (bt j) x) j) := hid (fun j hj => by funext z; show modF l0 (if j = k then true else bt j) z = _; rw [if_neg (by omega)])
                      have HGK : Hid (modF l0 ((fun j => if j = k then true else bt j) k) x = xx) := hid (by show modF l0 (if k = k then true else bt k) x = _; rw [if_pos rfl, HXX.out])
                      have HVN : Hid (votesF ((onW (fun j x => modF l0 ((fun j => if j = k then true else bt j) j) x) L0 (k + 1)).take (k + 1)) l0 = nv + if sb = true then 1 else 0) := hid (by rw [onW_take HX.out, onW_congr HGE.out, HGK.out, votes_app, ← HV.out, HSB.out]; rfl)
                      have HON : Hid (OwnM w9 w3.heap.size (.slice (some ⟨gb, 0, none⟩) gn gc) (mgs (onW (fun j x => modF l0 ((fun j => if j = k then true else bt j) j) x) L0 (k + 1)))) := hid (by rw [onW_next HX.out HGE.out, HGK.out, ← HMS.out]; exact OwnG.on HOQ.out HS9.out)
                      have HDN : Hid (Below w3.heap.size w4 w9) := hid (HDW4.out.trans (HS9.out.mono (Nat.le_trans HS4.out.size HDW4.out.size)))
                      rcases sb with _ | _
                      · as_aux_lemma =>
                          go_wp2_with fail
                          go_roundw
                          case rel => exact ⟨k + 1, nv, fun j => if j = k then true else bt j, by omega, by omega, by go_num, by first | rfl | go_num, hid (by rw [HVN.out]; simp), HON, HDN⟩
                          case measure => first | omega | (simp [RowKit.intOf]; omega)
                      · as_aux_lemma =>
                          go_wp2_with fail
                          go_roundw
                          case rel => exact ⟨k + 1, nv + 1, fun j => if j = k then true else bt j, by omega, by omega, by go_num, by first | rfl | go_num, hid (by rw [HVN.out]; simp), HON, HDN⟩
                          case measure => first | omega | (simp [RowKit.intOf]; omega)
                  · as_aux_lemma =>
                      obtain ⟨xx, hxx⟩ : ∃ z, z = modF l0 false x := ⟨_, rfl⟩
                      have HXX := hid hxx
                      have HOQ : Hid (OwnM W3 w3.heap.size (.slice (some ⟨gb, 0, none⟩) gn gc) (ms.set k xx.m)) := hid (by rw [hxx]; exact HOX3.out)
                      have HMQ : Hid ((ms.set k xx.m)[k]? = some xx.m) := hid (by rw [List.getElem?_set_self]; exact (List.getElem?_eq_some_iff.1 HMX.out).1)
                      have HBW5 : Hid (Below w.heap.size w W3) := hid (HB4.out.trans (HDW3.out.mono HB3.out.size))
                      have HXXA : Hid (Sl W3 xx.m.fp.v xx.f) := hid (by rw [hxx]; exact HXA.out.2.2.on HBW5.out)
                      have HXXS : Hid (xx.f.length ≤ 1024) := hid (by rw [hxx]; exact HXS.out.2.2)
                      clear hxx
                      obtain ⟨sb, hsb⟩ : ∃ z, z = (decide (xx.m.ft = l0.m.ft) && sameB xx.f l0.f) := ⟨_, rfl⟩
                      have HSB := hid hsb
                      have HF6 : Hid (OV W3 w1.heap.size l0.m.ft l0.m.fp) := hid (HF4.out.below HDW3.out HFL4.out)
                      have HSM : Hid (∀ W, Below W3.heap.size W3 W → Calls Try.prog 12 #[.agg (varr xx.m.ft xx.m.fp), .agg (varr l0.m.ft l0.m.fp)] W fun e w' => e = .returned (.bool sb) ∧ Below W.heap.size W w') := hid (fun W hW => by rw [hsb]; exact rSameVG _ _ (HXXA.out.on hW) ((H0A.out.2.2.on HBW5.out).on hW) (Nat.le_trans HXXS.out (by decide)) (Nat.le_trans H0S.out.2.2 (by decide)))
                      clear hsb
                      obtain ⟨rg, fz, th, hgB, hgL⟩ := own_at HOQ.out HMQ.out
                      have HRG := hid rg
                      have HGL := hid hgL
                      clear rg fz th hgB hgL
                      refine rh_start (S := fun W => Below W3.heap.size W3 W) (n := 8) (listed := #[false, false, false, false, false, false, false, false]) (by kernel_rfl) rfl rfl ?_
                      have HS0 : Hid (Below W3.heap.size W3 W3.drew) := hid (belowDrew (Below.refl _ _))
                      generalize W3.drew = wd at HS0 ⊢
                      refine rh_takeS (i := 0) (o := ?o18) (v := ?v18) (listed' := ?l18) (a' := ?a18) ?hi18 (by kernel_rfl) (by kernel_rfl) (by kernel_rfl) ?hq18 ?hl18 ?hw18 ?hv18 ?ha18 HS0.out ?hh18
                      case hi18 => (simp only [List.getElem?_toArray, List.getElem?_cons_zero]; try rfl)
                      case hq18 => exact fun _ _ _ h => h
                      case hl18 => (simp only [List.setIfInBounds_toArray, List.set_cons_zero]; try rfl)
                      case hw18 => rfl
                      case hv18 =>
                        intro W hW
                        skip
                        go_simp
                        try with_reducible rfl
                      case ha18 => (simp only [Act.put, List.setIfInBounds_toArray, List.set_cons_succ, List.set_cons_zero]; try rfl)
                      refine rh_takeS (i := 1) (o := ?o19) (v := ?v19) (listed' := ?l19) (a' := ?a19) ?hi19 (by kernel_rfl) (by kernel_rfl) (by kernel_rfl) ?hq19 ?hl19 ?hw19 ?hv19 ?ha19 HS0.out ?hh19
                      case hi19 => (simp only [List.getElem?_toArray, List.getElem?_cons_succ, List.getElem?_cons_zero]; try rfl)
                      case hq19 => exact fun _ _ _ h => h
                      case hl19 => (simp only [List.setIfInBounds_toArray, List.set_cons_succ, List.set_cons_zero]; try rfl)
                      case hw19 => rfl
                      case hv19 =>
                        intro W hW
                        skip
                        go_simp
                        try with_reducible rfl
                      case ha19 => (simp only [Act.put, List.setIfInBounds_toArray, List.set_cons_succ, List.set_cons_zero]; try rfl)
                      refine rh_takeS (i := 2) (o := ?o20) (v := ?v20) (listed' := ?l20) (a' := ?a20) ?hi20 (by kernel_rfl) (by kernel_rfl) (by kernel_rfl) ?hq20 ?hl20 ?hw20 ?hv20 ?ha20 HS0.out ?hh20
                      case hi20 => (simp only [List.getElem?_toArray, List.getElem?_cons_succ, List.getElem?_cons_zero]; try rfl)
                      case hq20 => exact fun _ _ _ h => h
                      case hl20 => (simp only [List.setIfInBounds_toArray, List.set_cons_succ, List.set_cons_zero]; try rfl)
                      case hw20 => rfl
                      case hv20 =>
                        intro W hW
                        skip
                        go_simp
                        try with_reducible rfl
                      case ha20 => (simp only [Act.put, List.setIfInBounds_toArray, List.set_cons_succ, List.set_cons_zero]; try rfl)
                      refine rh_takeS (i := 3) (o := ?o21) (v := ?v21) (listed' := ?l21) (a' := ?a21) ?hi21 (by kernel_rfl) (by kernel_rfl) (by kernel_rfl) ?hq21 ?hl21 ?hw21 ?hv21 ?ha21 HS0.out ?hh21
                      case hi21 => (simp only [List.getElem?_toArray, List.getElem?_cons_succ, List.getElem?_cons_zero]; try rfl)
                      case hq21 => exact fun _ _ _ h => h
                      case hl21 => (simp only [List.setIfInBounds_toArray, List.set_cons_succ, List.set_cons_zero]; try rfl)
                      case hw21 => rfl
                      case hv21 =>
                        intro W hW
                        skip
                        go_simp
                        try with_reducible rfl
                      case ha21 => (simp only [Act.put, List.setIfInBounds_toArray, List.set_cons_succ, List.set_cons_zero]; try rfl)
                      refine rh_load (i := 4) (o := ?o22) (cs := vcs xx.m.ft xx.m.fp) (T := 28) (x := ?x22) (b := ?b22) (q := ?q22) (listed' := ?l22) (a' := ?a22) ?hi22 (by kernel_rfl) (by kernel_rfl) (by kernel_rfl) ?hq22 ?hl22 ?hg22 ?ho22 ?hx22 ?hc22 Try.underlying28 rfl (infoVl xx.m.ft xx.m.fp) ?ha22 HS0.out ?hh22
                      case hi22 => (simp only [List.getElem?_toArray, List.getElem?_cons_succ, List.getElem?_cons_zero]; try rfl)
                      case hq22 => exact fun _ _ _ h => h
                      case hl22 => (simp only [List.setIfInBounds_toArray, List.set_cons_succ, List.set_cons_zero]; try rfl)
                      case hg22 => rfl
                      case ho22 => rfl
                      case hx22 => rfl
                      case hc22 => exact fun W hW => rngF (fun i u hu => (hW.cell HGL.out).trans (HRG.out i u hu))
                      case ha22 => (show Act.put _ _ (Value.agg (varr xx.m.ft xx.m.fp)) = _); (simp only [Act.put, List.setIfInBounds_toArray, List.set_cons_succ, List.set_cons_zero]; try rfl)
                      refine rh_load (i := 5) (o := ?o23) (cs := vcs l0.m.ft l0.m.fp) (T := 28) (x := ?x23) (b := ?b23) (q := ?q23) (listed' := ?l23) (a' := ?a23) ?hi23 (by kernel_rfl) (by kernel_rfl) (by kernel_rfl) ?hq23 ?hl23 ?hg23 ?ho23 ?hx23 ?hc23 Try.underlying28 rfl (infoVl l0.m.ft l0.m.fp) ?ha23 HS0.out ?hh23
                      case hi23 => (simp only [List.getElem?_toArray, List.getElem?_cons_succ, List.getElem?_cons_zero]; try rfl)
                      case hq23 => exact fun _ _ _ h => h
                      case hl23 => (simp only [List.setIfInBounds_toArray, List.set_cons_succ, List.set_cons_zero]; try rfl)
                      case hg23 => rfl
                      case ho23 => rfl
                      case hx23 => rfl
                      case hc23 => exact fun W hW => OV.range (HF6.out.on hW)
                      case ha23 => (show Act.put _ _ (Value.agg (varr l0.m.ft l0.m.fp)) = _); (simp only [Act.put, List.setIfInBounds_toArray, List.set_cons_succ, List.set_cons_zero]; try rfl)
                      refine wpAnyH_ready (rs := [6]) (by kernel_rfl) (by simp) ?_
                      refine rh_cons (i := 6) (o := ?o24) (listed' := ?l24) ?hi24 ?hl24 ?hg24 ?hh24 ?hs24
                      case hi24 => (simp only [List.getElem?_toArray, List.getElem?_cons_succ, List.getElem?_cons_zero]; try rfl)
                      case hl24 => (simp only [List.setIfInBounds_toArray, List.set_cons_succ, List.set_cons_zero]; try rfl)
                      case hg24 => rfl
                      case hs24 => exact AllReadyH.nil
                      intro K hK
                      go_simp
                      refine (HSM.out _ HS0.out).mono ?_
                      rintro e w9 ⟨rfl, hB⟩
                      have HS9 := hid (HS0.out.trans (hB.mono HS0.out.size))
                      clear hB
                      refine hK.out _ _ HS9.out ?_
                      clear hK K
                      refine rh_takeS (i := 7) (o := ?o25) (v := ?v25) (listed' := ?l25) (a' := ?a25) ?hi25 (by kernel_rfl) (by kernel_rfl) (by kernel_rfl) ?hq25 ?hl25 ?hw25 ?hv25 ?ha25 HS9.out ?hh25
                      case hi25 => (simp only [List.getElem?_toArray, List.getElem?_cons_succ, List.getElem?_cons_zero]; try rfl)
                      case hq25 => exact fun _ _ _ h => h
                      case hl25 => (simp only [List.setIfInBounds_toArray, List.set_cons_succ, List.set_cons_zero]; try rfl)
                      case hw25 => rfl
                      case hv25 =>
                        intro W hW
                        skip
                        go_simp
                        try with_reducible rfl
                      case ha25 => (simp only [Act.put, List.setIfInBounds_toArray, List.set_cons_succ, List.set_cons_zero]; try rfl)
                      refine wpAnyH_done (by kernel_rfl) ?_ _
                      have HGE : Hid (∀ j, j < k → (fun j x => modF l0 ((fun j => if j = k then false else bt j) j) x) j = (fun j x => modF l0 (bt j) x) j) := hid (fun j hj => by funext z; show modF l0 (if j = k then false else bt j) z = _; rw [if_neg (by omega)])
                      have HGK : Hid (modF l0 ((fun j => if j = k then false else bt j) k) x = xx) := hid (by show modF l0 (if k = k then false else bt k) x = _; rw [if_pos rfl, HXX.out])
                      have HVN : Hid (votesF ((onW (fun j x => modF l0 ((fun j => if j = k then false else bt j) j) x) L0 (k + 1)).take (k + 1)) l0 = nv + if sb = true then 1 else 0) := hid (by rw [onW_take HX.out, onW_congr HGE.out, HGK.out, votes_app, ← HV.out, HSB.out]; rfl)
                      have HON : Hid (OwnM w9 w3.heap.size (.slice (some ⟨gb, 0, none⟩) gn gc) (mgs (onW (fun j x => modF l0 ((fun j => if j = k then false else bt j) j) x) L0 (k + 1)))) := hid (by rw [onW_next HX.out HGE.out, HGK.out, ← HMS.out]; exact OwnG.on HOQ.out HS9.out)
                      have HDN : Hid (Below w3.heap.size w4 w9) := hid (HDW3.out.trans (HS9.out.mono (Nat.le_trans HS4.out.size HDW3.out.size)))
                      rcases sb with _ | _
                      · as_aux_lemma =>
                          go_wp2_with fail
                          go_roundw
                          case rel => exact ⟨k + 1, nv, fun j => if j = k then false else bt j, by omega, by omega, by go_num, by first | rfl | go_num, hid (by rw [HVN.out]; simp), HON, HDN⟩
                          case measure => first | omega | (simp [RowKit.intOf]; omega)
                      · as_aux_lemma =>
                          go_wp2_with fail
                          go_roundw
                          case rel => exact ⟨k + 1, nv + 1, fun j => if j = k then false else bt j, by omega, by omega, by go_num, by first | rfl | go_num, hid (by rw [HVN.out]; simp), HON, HDN⟩
                          case measure => first | omega | (simp [RowKit.intOf]; omega)
              · as_aux_lemma =>
                  have hlti : ¬ ((k : Int) < gn) := by omega
                  have HKN : Hid (k = gn) := hid (by omega)
                  obtain ⟨Ln, hLn⟩ : ∃ z, z = onW (fun j x => modF l0 (bt j) x) L0 gn := ⟨_, rfl⟩
                  have HOL : Hid (OwnM wr w3.heap.size (.slice (some ⟨gb, 0, none⟩) gn gc) (mgs Ln)) := hid (by have := HOR.out; rw [HKN.out, ← hLn] at this; exact this)
                  have HLL : Hid (Ln.length = gn) := hid (by rw [hLn, onW_len]; exact HL0L.out)
                  have HVL : Hid (nv = votesF Ln l0) := hid (by have := HV.out; rw [HKN.out, ← hLn] at this; rw [this, List.take_of_length_le (by rw [HLL.out]; omega)])
                  have HROW : Hid (Row gn l0.m.c Ln ∧ (∀ x ∈ Ln, x.m.ab = 0) ∧ (∀ x ∈ Ln, x.m.fl = false) ∧ (∀ x ∈ Ln, x.at w ∧ x.short 1024)) := hid (by
                    have key : ∀ z ∈ Ln, ∃ (j : Nat) (x : Ms), L0[j]? = some x ∧ z = modF l0 (bt j) x := fun z hz => by
                      rw [hLn] at hz; obtain ⟨j, x, hj, e⟩ := onW_mem hz; have := (List.getElem?_eq_some_iff.1 hj).1; rw [if_pos (by have := HL0L.out; omega)] at e; exact ⟨j, x, hj, e⟩
                    have k2 : ∀ (j : Nat) (x : Ms), L0[j]? = some x → x = mkA ls l0.m.c j := fun j x hj => by
                      have hl := (List.getElem?_eq_some_iff.1 hj).1; rw [HL0L.out] at hl; rw [HL0'.out, allA_at hl] at hj; exact (Option.some.inj hj).symm
                    have hful : fullB l0.m.ft l0.f = true := HFU.out.symm
                    refine ⟨⟨HLL.out, fun z hz => ?_, fun z hz => ?_, fun z hz => ?_, fun z hz => ?_, fun i z hz => ?_⟩, fun z hz => ?_, fun z hz => ?_, fun z hz => ?_⟩
                    · obtain ⟨j, x, hj, rfl⟩ := key z hz; rw [k2 j x hj]; exact (mkA_is ls l0.m.c j).1
                    · obtain ⟨j, x, hj, rfl⟩ := key z hz; exact modF_right (HAR.out x (List.mem_of_getElem? hj)) (by rw [k2 j x hj]; exact (mkA_is ls l0.m.c j).1) hful
                    · obtain ⟨j, x, hj, rfl⟩ := key z hz; rw [k2 j x hj]; exact (mkA_is ls l0.m.c j).2.2.2
                    · obtain ⟨j, x, hj, rfl⟩ := key z hz; rw [k2 j x hj]; exact (mkA_is ls l0.m.c j).2.2.1
                    · have hl := (List.getElem?_eq_some_iff.1 hz).1
                      rw [HLL.out, ← HL0L.out] at hl
                      rw [hLn, onW_at (List.getElem?_eq_getElem hl), if_pos (by rw [← HL0L.out]; exact hl)] at hz
                      rw [← Option.some.inj hz, k2 i _ (List.getElem?_eq_getElem hl)]; exact (mkA_is ls l0.m.c i).2.1
                    · obtain ⟨j, x, hj, rfl⟩ := key z hz; rfl
                    · obtain ⟨j, x, hj, rfl⟩ := key z hz; rfl
                    · obtain ⟨j, x, hj, rfl⟩ := key z hz
                      have ha : x.at w := by rw [k2 j x hj]; exact mkA_at HA.out
                      have hs : x.short 1024 := by rw [k2 j x hj]; exact mkA_short HSH.out
                      have hn : Sl w (.slice none 0 0) [] := (Own.nil w 0).sl
                      rcases hb : bt j with _ | _
                      · exact ⟨⟨ha.1, hn, ha.2.2⟩, ⟨hs.1, by simp [modF], hs.2.2⟩⟩
                      · exact ⟨⟨ha.1, hn, H0A.out.2.2⟩, ⟨hs.1, by simp [modF], H0S.out.2.2⟩⟩)
                  clear hLn
                  have HBL5 : Hid (Below w3.heap.size w4 wr) := hid HBL.out
                  have HSO := hid (cSome (w := wr) a1 HHA1.out (OwnG.slG kM HOL.out) (by rw [HLL.out]; omega))
                  skip
                  have a01 : wr.cell? ⟨w.heap.size, 1, none⟩ = some (.int .u16 a1) := (cellAt' ((HBL5.out.block _ HWL4.out).trans HW4.out) 1).trans rfl
                  go_wp2_with fail
                  go_at_call 15
                  refine HSO.out.mono ?_
                  rintro e w5 ⟨bm, g2, q2, c2, rfl, hO, hB⟩
                  have HOS := hid hO
                  have HS5 := hid hB
                  have HB5 : Hid (Below w.heap.size w w5) := hid (HBR.out.trans (hB.mono HBR.out.size))
                  clear hB HSO a01
                  obtain ⟨q, hq⟩ : ∃ z, z = pick bm 0 Ln := ⟨_, rfl⟩
                  rw [← hq] at HOS hO
                  have HQS : Hid (q.Sublist Ln) := hid (by rw [hq]; exact pick_sub)
                  have hq2 : q2 = q.length := by obtain ⟨g', c', n', e, hn'⟩ := OwnG.asSlice hO; injection e with e1 e2 e3; rw [e2, hn']; unfold mgs; rw [List.length_map]
                  have hq9 : q2 ≤ 9 := by rw [hq2]; exact Nat.le_trans HQS.out.length_le (by rw [HLL.out]; exact hn9)
                  have HQ2 := hid hq2
                  clear hq hO hq2
                  obtain ⟨fa, hfa⟩ : ∃ z, z = faI (gn : Int) := ⟨_, rfl⟩
                  obtain ⟨cl, hcl⟩ : ∃ z, z = clI (gn : Int) := ⟨_, rfl⟩
                  have hFA := fun W => rFast_any (gn : Int) W
                  have hCL := fun W => rClassic_any (gn : Int) W
                  rw [← hfa] at hFA
                  rw [← hcl] at hCL
                  have HFA := hid hfa
                  have HCL := hid hcl
                  clear hfa hcl
                  by_cases hv1 : (nv : Int) < fa
                  · as_aux_lemma =>
                      go_wp2_with (first | (go_at_call 16; refine (hFA _).mono ?_; rintro e w' ⟨rfl, rfl⟩) | (go_at_call 17; refine (hCL _).mono ?_; rintro e w' ⟨rfl, rfl⟩) | (go_at_call 7; refine (cAlive15 _).mono ?_; rintro e wa ⟨rfl, hB⟩; have HBA : Hid (Below w.heap.size w wa) := hid (HB5.out.trans (hB.mono HB5.out.size)); clear hB) | fail)
                      go_ret
                      exact ⟨rfl, HBA.out⟩
                  · as_aux_lemma =>
                      have HV1 := hid hv1
                      by_cases hv2 : (q2 : Int) < cl
                      · as_aux_lemma =>
                          go_wp2_with (first | (go_at_call 16; refine (hFA _).mono ?_; rintro e w' ⟨rfl, rfl⟩) | (go_at_call 17; refine (hCL _).mono ?_; rintro e w' ⟨rfl, rfl⟩) | (go_at_call 7; refine (cAlive15 _).mono ?_; rintro e wa ⟨rfl, hB⟩; have HBA : Hid (Below w.heap.size w wa) := hid (HB5.out.trans (hB.mono HB5.out.size)); clear hB) | fail)
                          go_ret
                          exact ⟨rfl, HBA.out⟩
                      · as_aux_lemma =>
                          have HV2 := hid hv2
                          have HCH : Hid (choF (gn : Int) q = ⟨2, l0.m.ft, l0.f, 0⟩) := hid (fast_left HROW.out.1 HQS.out hn3 hn9 (by rw [← HQ2.out, ← HCL.out]; have := HV2.out; omega) HROW.out.2.1 HROW.out.2.2.1 (by have := HFU.out.symm; unfold fullB at this; simp only [Bool.and_eq_true] at this; exact this.1) (by rw [← HVL.out, ← HFA.out]; have := HV1.out; omega))
                          have HCHO := hid (cChoose (w := w5) (gn : Int) (OwnG.slG kM HOS.out) (fun x hx => (HROW.out.2.2.2 x (HQS.out.subset hx)).1.on HB5.out) (fun x hx => (HROW.out.2.2.2 x (HQS.out.subset hx)).2) (by rw [← HQ2.out]; omega))
                          go_wp2_with (first | (go_at_call 16; refine (hFA _).mono ?_; rintro e w' ⟨rfl, rfl⟩) | (go_at_call 17; refine (hCL _).mono ?_; rintro e w' ⟨rfl, rfl⟩) | fail)
                          go_at_call 8
                          refine HCHO.out.mono ?_
                          rintro e w6 ⟨r, rfl, hs, hB⟩
                          rw [HCH.out] at hs ⊢
                          have HSR := hid hs
                          have HS6 := hid hB
                          have HB6 : Hid (Below w.heap.size w w6) := hid (HB5.out.trans (hB.mono HB5.out.size))
                          clear hs hB HCHO
                          go_upto_region 26 with (first
                            | ((with_reducible refine storeCh (x := ?cx26) (y := ?cy26) (b := w6.heap.size) 2 l0.m.ft r ?cg26 ?co26 ?cxx26 ?cyy26 ?cc26 ?ch26); (case cg26 => rfl); (case co26 => rfl); (case cxx26 => rfl); (case cyy26 => rfl); (case cc26 => exact roomCZ _); intro w7 hO hU; have HX7 : Hid (OC w7 w6.heap.size 2 l0.m.ft r) := hid hO; have HS7 : Hid (Below w6.heap.size w6 w7) := hid ((laid1_b w6 zeroCc).trans (hU.below w6.heap.size (Nat.le_refl _))); clear hO hU)
                            | fail)
                          have HB7 : Hid (Below w.heap.size w w7) := hid (HB6.out.trans (HS7.out.mono HB6.out.size))
                          have HF7 : Hid (OV w7 w1.heap.size l0.m.ft l0.m.fp) := hid (OV.on (OV.on (OV.on (HF4.out.below HBL5.out HFL4.out) HS5.out) HS6.out) HS7.out)
                          have HRC : Hid (w7.rangeAt w6.heap.size 1 (vcs l0.m.ft r)) := hid (fun i u hu => by have hh := HX7.out.range; rcases i with _ | _ | i; exact (by have := hh 1 (.int .i64 l0.m.ft) rfl; obtain rfl := Option.some.inj hu; rwa [Nat.zero_add] at this); exact (by have := hh 2 (.slice r.a r.n r.c) rfl; obtain rfl := Option.some.inj hu; rwa [Nat.zero_add] at this); simp [vcs] at hu)
                          have HM1 := hid (rSameValue (w := w7) l0.m.ft (HSR.out.on HS7.out) (H0A.out.2.2.on HB7.out) (Nat.le_trans H0S.out.2.2 (by decide)))
                          go_upto_region 27 with (first
                            | ((with_reducible refine loadVl (x := ?vx27) (b := w6.heap.size) (o := 1) l0.m.ft r ?vg27 ?vo27 ?vxx27 ?vc27 ?_); (case vg27 => rfl); (case vo27 => rfl); (case vxx27 => rfl); (case vc27 => exact HRC.out))
                            | ((with_reducible refine loadVl (x := ?vx28) (b := w1.heap.size) (o := 0) l0.m.ft l0.m.fp ?vg28 ?vo28 ?vxx28 ?vc28 ?_); (case vg28 => rfl); (case vo28 => rfl); (case vxx28 => rfl); (case vc28 => exact HF7.out.range))
                            | (go_at_call 12; refine HM1.out.mono ?_; rintro e w8 ⟨rfl, hB⟩; have HS8 := hid hB; clear hB)
                            | fail)
                          have HB8 : Hid (Below w.heap.size w w8) := hid (HB7.out.trans (HS8.out.mono HB7.out.size))
                          have HX8 : Hid (OC w8 w6.heap.size 2 l0.m.ft r) := hid (heapB HX7.out HS8.out (Array.getElem?_eq_some_iff.1 HX7.out).1)
                          go_wp2_with (first | (go_at_call 7; refine (cAlive15 _).mono ?_; rintro e w12 ⟨rfl, hB⟩; have HB12 : Hid (Below w.heap.size w w12) := hid (HB8.out.trans (hB.mono HB8.out.size)); have k0 : w12.cell? ⟨w6.heap.size, 0, none⟩ = some (.int .i64 2) := (cellAt' (heapB HX8.out hB (Array.getElem?_eq_some_iff.1 HX8.out).1) 0).trans rfl; clear hB) | fail)
                          go_ret
                          exact ⟨by first | rfl | simp, HB12.out⟩
end Go.Proofs.Ytbcmhnaiabifjaa
