import Derived.Test.YtbcmhnaiabifjaaG28
import Derived.Test.YtbcmhnaiabifjaaHFreshZm
namespace Go.Proofs.Ytbcmhnaiabifjaa
set_option linter.unusedVariables false
open Go.RowKit
open Go.Lib (hid)
theorem own_tch {S : Nat → Prop} {w w' : World} {B n size : Nat} {e : TypeId} {v : Value} {xs : List Value} (h : w.ownsRow B e size v n xs) (ht : Tch S w w') (hv : ∀ k, v.ownBlock = some k → ¬ S k) : w'.ownsRow B e size v n xs := by
  refine ⟨h.1, ?_⟩
  rcases h.2 with h2 | ⟨g, cap, cur, rfl, h1, hg, r⟩
  · exact .inl h2
  · exact .inr ⟨g, cap, cur, rfl, h1, ht.ob hg (hv g rfl), r⟩
theorem OV.setT {w : World} {q : Nat} {t : Int} {p : Sv} (h : OV w q t p) (t' : Int) : OV (w.setCell ⟨q, 0, none⟩ (.int .i64 t')) q t' p := by
  have := setAt (j := 0) (x := .int .i64 t') h
  have e : (varr t p).setIfInBounds 0 (.int .i64 t') = varr t' p := rfl
  rw [e] at this; exact this
theorem OV.setP {w : World} {q : Nat} {t : Int} {p : Sv} (h : OV w q t p) (p' : Sv) : OV (w.setCell ⟨q, 1, none⟩ (.slice p'.a p'.n p'.c)) q t p' := by
  have := setAt (j := 1) (x := .slice p'.a p'.n p'.c) h
  have e : (varr t p).setIfInBounds 1 (.slice p'.a p'.n p'.c) = varr t p' := rfl
  rw [e] at this; exact this
theorem OV.cells {w : World} {q : Nat} {t : Int} {p : Sv} (h : OV w q t p) : w.cell? ⟨q, 0, none⟩ = some (.int .i64 t) ∧ w.cell? ⟨q, 1, none⟩ = some (.slice p.a p.n p.c) ∧ w.frozen? ⟨q, 0, none⟩ = false ∧ w.frozen? ⟨q, 1, none⟩ = false :=
  ⟨(cellAt' h 0).trans rfl, (cellAt' h 1).trans rfl, frozenAt h 0, frozenAt h 1⟩
theorem OV.below {w w' : World} {q B : Nat} {t : Int} {p : Sv} (h : OV w q t p) (hb : Below B w w') (hq : q < B) : OV w' q t p := (hb.block q hq).trans h
theorem OV.lt {w : World} {q : Nat} {t : Int} {p : Sv} (h : OV w q t p) : q < w.heap.size := (Array.getElem?_eq_some_iff.1 h).1
theorem setV_below {w0 w : World} {q o B : Nat} {v : Value} (h : Below B w0 w) (hB : B ≤ w.heap.size) (hq : B ≤ q) : Below B w0 (w.setCell ⟨q, o, none⟩ v) := h.grown (grownSet w ⟨q, o, none⟩ v) hB fun k hk => by injection hk with hk; subst hk; exact hq
theorem setV_tch (w : World) (q o : Nat) (v : Value) : Tch (fun k => k = q) w (w.setCell ⟨q, o, none⟩ v) := Tch.ofGrown (grownSet w ⟨q, o, none⟩ v) fun k e => (Option.some.inj e).symm
theorem RoomV.tch {w w' : World} {q r : Nat} (h : RoomV w q) (ht : Tch (fun k => k = r) w w') (hr : q ≠ r) : RoomV w' q := by
  have hl := h.lt
  obtain ⟨C, h1, h2⟩ := h
  exact ⟨C, (ht.block q hl hr).trans h1, h2⟩
set_option maxHeartbeats 16000000 in
set_option maxRecDepth 100000 in
theorem rFreshM {v : Value} {ls : List Ms} {w : World} (h : SlM w v (mgs ls)) (hA : ∀ m ∈ ls, m.at w) (hS : ∀ m ∈ ls, m.short 1024) (hl : ls.length ≤ 40) : Calls Try.prog 11 #[v] w (FreshP w ls) := by
  have HSH := hid hS
  clear hS
  have HLL := hid hl
  obtain ⟨b, o, cap, a, rfl, ha, hc, hb⟩ := h
  have hlm : (mgs ls).length = ls.length := by unfold mgs; rw [List.length_map]
  rw [hlm] at ha hb ⊢
  have HA := hid hA
  have HCC := hid hc
  obtain ⟨m, hm⟩ : ∃ m, m = ls.length := ⟨_, rfl⟩
  rw [← hm] at ha hb hl ⊢
  have HN := hid hm
  clear hm hA hc hlm
  have HB00 : Hid (Below w.heap.size w ((w.alloc zeroVc).alloc zeroVc)) := hid (((Below.refl _ w).alloc (Nat.le_refl _) _).alloc (by simp) _)
  have HR00 : Hid (RoomV ((w.alloc zeroVc).alloc zeroVc) w.heap.size) := hid ((roomVZ w).on ((Below.refl _ _).alloc (Nat.le_refl _) _))
  have HX00 : Hid (OV ((w.alloc zeroVc).alloc zeroVc) (w.heap.size + 1) 0 zS) := hid (laid2_1 w zeroVc zeroVc)
  have tk1 : Hid (0 = 0) := hid rfl
  go_enter Try.func11, Try.ntmps11
  go_wp2_with fail
  go_loopw [5, 6] (fun s5 i wr => ∃ (k : Nat) (t : Int) (out : List C7), k ≤ m ∧ i = .int .i64 k ∧ Hid (t = maxS (ls.take k)) ∧ Hid (out = setsF (ls.take k)) ∧ Hid (∀ x ∈ ls.take k, rightM x = true) ∧ Hid (Below w.heap.size w wr) ∧ Hid (RoomV wr w.heap.size) ∧ Hid (OV wr (w.heap.size + 1) t zS) ∧ Own wr (w.heap.size + 2) s5 out) (fun _ i _ => m - (RowKit.intOf i).toNat)
  case atStart => exact ⟨0, 0, [], Nat.zero_le _, rfl, hid rfl, hid rfl, hid (by simp), HB00, HR00, HX00, Own.nil _ _⟩
  case round =>
    obtain ⟨k, t, out, hk, rfl, HT, HO0, HAR, HB, HR, HX, hown⟩ := hrel
    clear HB00 HR00 HX00
    have HO := hid hown
    have HOL : Hid (out.length ≤ 40960) := hid (by rw [HO0.out]; refine Nat.le_trans (sets_len (n := 1024) (fun x hx => (HSH.out x (List.mem_of_mem_take hx)).1)) ?_; have := HLL.out; have h2 : (ls.take k).length ≤ 40 := Nat.le_trans (List.length_take_le _ _) (by omega); exact Nat.mul_le_mul_right 1024 h2)
    obtain ⟨gu, capu, nu, rfl, hnu⟩ := Own.asSlice hown
    clear hown hnu
    have HQ1 := hid HX.out.lt
    by_cases hlt : k < m
    · have hlti : ((k : Int) < m) := by omega
      have HBW := hid (hb (by omega))
      obtain rfl := ha (by omega)
      obtain ⟨y, hy⟩ : ∃ y, ls[k]? = some y := ⟨ls[k]'(by rw [← HN.out]; exact hlt), List.getElem?_eq_getElem (by rw [← HN.out]; exact hlt)⟩
      have hbw := hb (by omega)
      have HC : Hid (wr.rangeAt b (o + k * 20) y.m.list) := hid ((HCC.out.on HB.out fun _ => hbw) k y.m (at_mgs hy))
      have HY := hid hy
      have HYA := hid ((HA.out y (List.mem_of_getElem? hy)).on HB.out)
      clear hy hbw
      have HYS := hid (HSH.out y (List.mem_of_getElem? HY.out))
      have HBX := hid (Nat.lt_of_lt_of_le HBW.out HB.out.size)
      obtain ⟨rb, hrb⟩ : ∃ z, z = rightM y := ⟨_, rfl⟩
      have HRB := hid hrb
      have HCR : Hid (Calls Try.prog 30 #[.agg y.m.arr] wr fun e w' => e = .returned (.bool rb) ∧ Below wr.heap.size wr w') := hid (by rw [hrb]; exact rRightM HYA.out HYS.out)
      clear hrb
      rcases rb with _ | _
      · as_aux_lemma =>
          go_wp2_with (first
            | ((with_reducible refine loadMl (x := ?lx1) (b := ?lb1) (o := ?lo1) y.m ?lg1 ?lp1 ?lxx1 ?lc1 ?_); (case lg1 => rfl); (case lp1 => rfl); (case lxx1 => rfl); (case lc1 => exact HC.out))
            | (go_at_call 30; refine HCR.out.mono ?_; rintro e w1 ⟨rfl, hB⟩; have HB1 := hid hB; have HR1 := hid (HR.out.on hB); have HX1 := hid (HX.out.on hB); clear hB)
            | ((with_reducible refine storeV (x := ?wx2) (y := ?wy2) (b := w.heap.size) 0 zS ?wg2 ?wo2 ?wxx2 ?wyy2 ?wc2 ?wh2); (case wg2 => rfl); (case wo2 => rfl); (case wxx2 => rfl); (case wyy2 => rfl); (case wc2 => exact HR1.out); intro W3 hO hU; have HO3 : Hid (OV W3 w.heap.size 0 zS) := hid hO; have HB3 : Hid (Below w.heap.size w1 W3) := hid (hU.below w.heap.size (Nat.le_refl _)); clear hO hU)
            | fail)
          refine bodyPost_ret (ret_cell_tmp rfl rfl rfl HO3.out.range Try.underlying28 rfl (infoVl _ _)) rfl (FreshP.bad (x := 1) ?_ (by decide) ?_)
          · unfold freshE; rw [if_neg]; unfold allRight; rw [List.all_eq_true]; intro hh; have := hh y (List.mem_of_getElem? HY.out); rw [← HRB.out] at this; cases this
          · exact (HB.out.trans (HB1.out.mono HB.out.size)).trans HB3.out
      · as_aux_lemma =>
          go_wp2_with (first
            | ((with_reducible refine loadMl (x := ?lx3) (b := ?lb3) (o := ?lo3) y.m ?lg3 ?lp3 ?lxx3 ?lc3 ?_); (case lg3 => rfl); (case lp3 => rfl); (case lxx3 => rfl); (case lc3 => exact HC.out))
            | (go_at_call 30; refine HCR.out.mono ?_; rintro e w1 ⟨rfl, hB⟩; have HB1 := hid hB; have HR1 := hid (HR.out.on hB); have HX1 := hid (HX.out.on hB); clear hB)
            | fail)
          have HOW1 : Hid (Own w1 (w.heap.size + 2) (.slice gu nu capu) out) := hid (own_sl_below HO.out HB1.out)
          have HQ2 := hid HX1.out.lt
          have HWB := hid HB.out.size
          have HW1 := hid HB1.out.size
          refine rh_start (S := fun W => Below w.heap.size w1 W) (n := 10) (listed := #[false, false, false, false, false, false, false, false, false, false]) (by kernel_rfl) rfl rfl ?_
          have HXd : Hid (OV w1.drew (w.heap.size + 1) t zS) := hid HX1.out
          have HRd : Hid (RoomV w1.drew w.heap.size) := hid HR1.out
          have HOd : Hid (Own w1.drew (w.heap.size + 2) (.slice gu nu capu) out) := hid (own_sl_below HOW1.out (belowDrew (Below.refl _ _)))
          have HSd : Hid (Below w1.heap.size w1 w1.drew) := hid (belowDrew (Below.refl _ _))
          have HS0 : Hid (Below w.heap.size w1 w1.drew) := hid (HSd.out.mono (Nat.le_trans HWB.out HW1.out))
          generalize w1.drew = wd at HS0 HXd HRd HOd HSd ⊢
          refine rh_takeS (i := 0) (o := ?o4) (v := ?v4) (listed' := ?l4) (a' := ?a4) ?hi4 (by kernel_rfl) (by kernel_rfl) (by kernel_rfl) ?hq4 ?hl4 ?hw4 ?hv4 ?ha4 HS0.out ?hh4
          case hi4 => (simp only [List.getElem?_toArray, List.getElem?_cons_zero]; try rfl)
          case hq4 => exact fun _ _ _ h => h
          case hl4 => (simp only [List.setIfInBounds_toArray, List.set_cons_zero]; try rfl)
          case hw4 => rfl
          case hv4 =>
            intro W hW
            skip
            go_simp
            try with_reducible rfl
          case ha4 => (simp only [Act.put, List.setIfInBounds_toArray, List.set_cons_succ, List.set_cons_zero]; try rfl)
          refine rh_takeS (i := 2) (o := ?o5) (v := ?v5) (listed' := ?l5) (a' := ?a5) ?hi5 (by kernel_rfl) (by kernel_rfl) (by kernel_rfl) ?hq5 ?hl5 ?hw5 ?hv5 ?ha5 HS0.out ?hh5
          case hi5 => (simp only [List.getElem?_toArray, List.getElem?_cons_succ, List.getElem?_cons_zero]; try rfl)
          case hq5 => exact fun _ _ _ h => h
          case hl5 => (simp only [List.setIfInBounds_toArray, List.set_cons_succ, List.set_cons_zero]; try rfl)
          case hw5 => rfl
          case hv5 =>
            intro W hW
            skip
            go_simp
            try with_reducible rfl
          case ha5 => (simp only [Act.put, List.setIfInBounds_toArray, List.set_cons_succ, List.set_cons_zero]; try rfl)
          refine rh_takeS (i := 3) (o := ?o6) (v := ?v6) (listed' := ?l6) (a' := ?a6) ?hi6 (by kernel_rfl) (by kernel_rfl) (by kernel_rfl) ?hq6 ?hl6 ?hw6 ?hv6 ?ha6 HS0.out ?hh6
          case hi6 => (simp only [List.getElem?_toArray, List.getElem?_cons_succ, List.getElem?_cons_zero]; try rfl)
          case hq6 => exact fun _ _ _ h => h
          case hl6 => (simp only [List.setIfInBounds_toArray, List.set_cons_succ, List.set_cons_zero]; try rfl)
          case hw6 => rfl
          case hv6 =>
            intro W hW
            skip
            go_simp
            try with_reducible rfl
          case ha6 => (simp only [Act.put, List.setIfInBounds_toArray, List.set_cons_succ, List.set_cons_zero]; try rfl)
          refine rh_takeS (i := 4) (o := ?o7) (v := ?v7) (listed' := ?l7) (a' := ?a7) ?hi7 (by kernel_rfl) (by kernel_rfl) (by kernel_rfl) ?hq7 ?hl7 ?hw7 ?hv7 ?ha7 HS0.out ?hh7
          case hi7 => (simp only [List.getElem?_toArray, List.getElem?_cons_succ, List.getElem?_cons_zero]; try rfl)
          case hq7 => exact fun _ _ _ h => h
          case hl7 => (simp only [List.setIfInBounds_toArray, List.set_cons_succ, List.set_cons_zero]; try rfl)
          case hw7 => rfl
          case hv7 =>
            intro W hW
            skip
            go_simp
            try with_reducible rfl
          case ha7 => (simp only [Act.put, List.setIfInBounds_toArray, List.set_cons_succ, List.set_cons_zero]; try rfl)
          refine rh_takeS (i := 5) (o := ?o8) (v := ?v8) (listed' := ?l8) (a' := ?a8) ?hi8 (by kernel_rfl) (by kernel_rfl) (by kernel_rfl) ?hq8 ?hl8 ?hw8 ?hv8 ?ha8 HS0.out ?hh8
          case hi8 => (simp only [List.getElem?_toArray, List.getElem?_cons_succ, List.getElem?_cons_zero]; try rfl)
          case hq8 => exact fun _ _ _ h => h
          case hl8 => (simp only [List.setIfInBounds_toArray, List.set_cons_succ, List.set_cons_zero]; try rfl)
          case hw8 => rfl
          case hv8 =>
            intro W hW
            skip
            go_simp
            try with_reducible rfl
          case ha8 => (simp only [Act.put, List.setIfInBounds_toArray, List.set_cons_succ, List.set_cons_zero]; try rfl)
          refine rh_takeS (i := 6) (o := ?o9) (v := ?v9) (listed' := ?l9) (a' := ?a9) ?hi9 (by kernel_rfl) (by kernel_rfl) (by kernel_rfl) ?hq9 ?hl9 ?hw9 ?hv9 ?ha9 HS0.out ?hh9
          case hi9 => (simp only [List.getElem?_toArray, List.getElem?_cons_succ, List.getElem?_cons_zero]; try rfl)
          case hq9 => exact fun _ _ _ h => h
          case hl9 => (simp only [List.setIfInBounds_toArray, List.set_cons_succ, List.set_cons_zero]; try rfl)
          case hw9 => rfl
          case hv9 =>
            intro W hW
            have c1 : W.cell? ⟨b, o + k * 20 + 14, none⟩ = some (.int .i64 y.m.s) := (hW.cell HBW.out).trans ((HB1.out.cell HBX.out).trans (HC.out 14 _ rfl))
            go_simp
            try with_reducible rfl
          case ha9 => (simp only [Act.put, List.setIfInBounds_toArray, List.set_cons_succ, List.set_cons_zero]; try rfl)
          obtain ⟨z0, z1, z2, z3⟩ := HXd.out.cells
          refine wpAnyH_ready (rs := [1]) (by kernel_rfl) (by simp) ?_
          refine rh_cons (i := 1) (o := ?o10) (listed' := ?l10) ?hi10 ?hl10 ?hg10 ?hh10 ?hs10
          case hi10 => (simp only [List.getElem?_toArray, List.getElem?_cons_succ, List.getElem?_cons_zero]; try rfl)
          case hl10 => (simp only [List.setIfInBounds_toArray, List.set_cons_succ, List.set_cons_zero]; try rfl)
          case hg10 => rfl
          case hs10 => exact AllReadyH.nil
          intro K hK
          go_simp
          refine hK.out _ _ HS0.out ?_
          clear hK K
          refine rh_takeS (i := 7) (o := ?o11) (v := ?v11) (listed' := ?l11) (a' := ?a11) ?hi11 (by kernel_rfl) (by kernel_rfl) (by kernel_rfl) ?hq11 ?hl11 ?hw11 ?hv11 ?ha11 HS0.out ?hh11
          case hi11 => (simp only [List.getElem?_toArray, List.getElem?_cons_succ, List.getElem?_cons_zero]; try rfl)
          case hq11 => exact fun _ _ _ h => h
          case hl11 => (simp only [List.setIfInBounds_toArray, List.set_cons_succ, List.set_cons_zero]; try rfl)
          case hw11 => rfl
          case hv11 =>
            intro W hW
            skip
            go_simp
            try with_reducible rfl
          case ha11 => (simp only [Act.put, List.setIfInBounds_toArray, List.set_cons_succ, List.set_cons_zero]; try rfl)
          refine rh_takeS (i := 8) (o := ?o12) (v := ?v12) (listed' := ?l12) (a' := ?a12) ?hi12 (by kernel_rfl) (by kernel_rfl) (by kernel_rfl) ?hq12 ?hl12 ?hw12 ?hv12 ?ha12 HS0.out ?hh12
          case hi12 => (simp only [List.getElem?_toArray, List.getElem?_cons_succ, List.getElem?_cons_zero]; try rfl)
          case hq12 => exact fun _ _ _ h => h
          case hl12 => (simp only [List.setIfInBounds_toArray, List.set_cons_succ, List.set_cons_zero]; try rfl)
          case hw12 => rfl
          case hv12 =>
            intro W hW
            skip
            go_simp
            try with_reducible rfl
          case ha12 => (simp only [Act.put, List.setIfInBounds_toArray, List.set_cons_succ, List.set_cons_zero]; try rfl)
          refine wpAnyH_ready (rs := [9]) (by kernel_rfl) (by simp) ?_
          refine rh_cons (i := 9) (o := ?o13) (listed' := ?l13) ?hi13 ?hl13 ?hg13 ?hh13 ?hs13
          case hi13 => (simp only [List.getElem?_toArray, List.getElem?_cons_succ, List.getElem?_cons_zero]; try rfl)
          case hl13 => (simp only [List.setIfInBounds_toArray, List.set_cons_succ, List.set_cons_zero]; try rfl)
          case hg13 => rfl
          case hs13 => exact AllReadyH.nil
          intro K hK
          go_simp
          obtain ⟨W5, hW5⟩ : ∃ z, z = wd.setCell ⟨w.heap.size + 1, 0, none⟩ (.int .i64 (max t y.m.s)) := ⟨_, rfl⟩
          have HT5 : Hid (Tch (fun k => k = w.heap.size + 1) wd W5) := hid (by rw [hW5]; exact setV_tch _ _ _ _)
          have HX5 : Hid (OV W5 (w.heap.size + 1) (max t y.m.s) zS) := hid (by rw [hW5]; exact HXd.out.setT _)
          have HS5 : Hid (Below w.heap.size w1 W5) := hid (by rw [hW5]; exact setV_below HS0.out (Nat.le_trans HWB.out (Nat.le_trans HW1.out HSd.out.size)) (Nat.le_succ _))
          rw [← hW5]
          clear hW5 z0 z1 z2 z3
          have HR5 : Hid (RoomV W5 w.heap.size) := hid (HRd.out.tch HT5.out (by omega))
          have HO5 : Hid (Own W5 (w.heap.size + 2) (.slice gu nu capu) out) := hid (own_tch HOd.out HT5.out (fun k hk e => by have := (HOd.out.lt k hk).1; omega))
          refine hK.out _ _ HS5.out ?_
          clear hK K
          refine wpAnyH_done (by kernel_rfl) ?_ _
          have HSV : Hid (Sl W5 (.slice y.m.vp.a y.m.vp.n y.m.vp.c) y.v) := hid (((HYA.out.1.on HB1.out).on HSd.out).tch HT5.out (fun q hq i hi => by subst hq; rw [cellAt' HXd.out, Array.getElem?_eq_none (by show 2 ≤ i; omega)]))
          have c12 : W5.cell? ⟨b, o + k * 20 + 12, none⟩ = some (.slice y.m.vp.a y.m.vp.n y.m.vp.c) := (HS5.out.cell HBW.out).trans ((HB1.out.cell HBX.out).trans (HC.out 12 _ rfl))
          have hol : out.length + y.v.length ≤ 1000000 := by have := HOL.out; have := HYS.out.1; omega
          have hsz5 : w.heap.size + 2 ≤ W5.heap.size := by have := HX5.out.lt; omega
          go_wp2_with (first | (at_builtin; refine append_sl rfl _ _ rfl (xs := out) rfl rfl HO5.out rfl HSV.out hol hsz5 ?_; intro v6 w6 hown6 hgrow6) | fail)
          have HB6 : Hid (Below (w.heap.size + 2) W5 w6) := hid ((Below.refl _ W5).grown hgrow6 hsz5 (fun q hq => (HO5.out.lt q hq).1))
          have HO6 := hid hown6
          clear hown6 hgrow6 c12
          go_roundw
          case rel => exact ⟨k + 1, max t y.m.s, _, by omega, by go_num, hid (by rw [maxS_next HY.out, ← HT.out]; split <;> omega), hid (by rw [sets_next HY.out, ← HO0.out]), hid (all_next HY.out HAR.out HRB.out.symm), hid ((HB.out.trans (HB1.out.mono HB.out.size)).trans (HS5.out.trans (HB6.out.mono (by omega)))), hid (HR5.out.below HB6.out (by omega)), hid (HX5.out.below HB6.out (by omega)), HO6.out⟩
          case measure => first | omega | (simp [RowKit.intOf]; omega)
    · have hlti : ¬ ((k : Int) < m) := by omega
      have HE : Hid (ls.take k = ls) := hid (by rw [show k = m by omega, HN.out, List.take_length])
      have HTT : Hid (maxS ls = t) := hid (by rw [HT.out, HE.out])
      have HAL : Hid (allRight ls = true) := hid (by unfold allRight; rw [List.all_eq_true]; intro x hx; exact HAR.out x (by rw [HE.out]; exact hx))
      obtain ⟨vb, hvb⟩ : ∃ z, z = validB t := ⟨_, rfl⟩
      have hV := fun W => rValid t W
      rw [← hvb] at hV
      have HVB := hid hvb
      have hU := rOf2 HO.out.sl (by have := HOL.out; omega)
      rw [show out = setsF ls by rw [HO0.out, HE.out]] at hU
      clear hvb
      obtain ⟨e2, he2⟩ : ∃ z, z = ofE2 (setsF ls) := ⟨_, rfl⟩
      rw [← he2] at hU
      have HE2 := hid he2
      clear he2
      obtain ⟨z0, z1, z2, z3⟩ := HX.out.cells
      rcases vb with _ | _
      · as_aux_lemma =>
          clear hU
          go_wp2_with (first
            | (clear tk1; go_at_call 31; refine (hV _).mono ?_; rintro e w' ⟨rfl, rfl⟩)
            | ((with_reducible refine storeV (x := ?wx14) (y := ?wy14) (b := w.heap.size) 0 zS ?wg14 ?wo14 ?wxx14 ?wyy14 ?wc14 ?wh14); (case wg14 => rfl); (case wo14 => rfl); (case wxx14 => rfl); (case wyy14 => rfl); (case wc14 => exact HR.out); intro W3 hO hU; have HO3 : Hid (OV W3 w.heap.size 0 zS) := hid hO; have HB3 : Hid (Below w.heap.size wr W3) := hid (hU.below w.heap.size (Nat.le_refl _)); have HUP := hid hU; clear hO hU)
            | fail)
          refine bodyPost_ret (ret_cell_tmp rfl rfl rfl HO3.out.range Try.underlying28 rfl (infoVl _ _)) rfl (FreshP.bad (x := 1) ?_ (by decide) (HB.out.trans HB3.out))
          unfold freshE; rw [if_pos HAL.out, if_neg (by rw [HTT.out, ← HVB.out]; decide)]
      · as_aux_lemma =>
          have HFE : Hid (freshE ls = e2) := hid (by unfold freshE; rw [if_pos HAL.out, if_pos (by rw [HTT.out]; exact HVB.out.symm), HE2.out])
          by_cases hz : e2 = 0
          · as_aux_lemma =>
              have HZ := hid hz
              have hzb : (e2 != 0) = false := by simp [hz]
              clear hz
              go_upto_region 18 with (first
                | (clear tk1; go_at_call 31; refine (hV _).mono ?_; rintro e w' ⟨rfl, rfl⟩)
                | (go_at_call 32; refine hU.mono ?_; rintro e w2 ⟨r, rfl, ho, hB⟩; obtain ⟨ra, rc, rn, rfl, hrn⟩ := Own.asSlice ho; have HOW := hid ho; have HB2 := hid hB; have HR2 := hid (HR.out.on hB); have HX2 := hid (HX.out.on hB); clear ho hB hrn; clear z0 z1 z2 z3; obtain ⟨z0, z1, z2, z3⟩ := HX2.out.cells)
                | fail)
              obtain ⟨W4, hW4⟩ : ∃ z, z = w2.setCell ⟨w.heap.size + 1, 1, none⟩ (.slice ra rn rc) := ⟨_, rfl⟩
              have HT4 : Hid (Tch (fun k => k = w.heap.size + 1) w2 W4) := hid (by rw [hW4]; exact setV_tch _ _ _ _)
              have HX4 : Hid (OV W4 (w.heap.size + 1) t ⟨ra, rn, rc⟩) := hid (by rw [hW4]; exact HX2.out.setP ⟨ra, rn, rc⟩)
              have HB4 : Hid (Below w.heap.size w W4) := hid (by rw [hW4]; exact setV_below (HB.out.trans (HB2.out.mono HB.out.size)) (Nat.le_trans HB.out.size HB2.out.size) (Nat.le_succ _))
              rw [← hW4]
              clear hW4 z0 z1 z2 z3
              have HR4 : Hid (RoomV W4 w.heap.size) := hid (HR2.out.tch HT4.out (by omega))
              have HS4 : Hid (Sl W4 (Sv.v ⟨ra, rn, rc⟩) (ofL2 (setsF ls))) := hid (HOW.out.sl.tch HT4.out (fun q hq i hi => by subst hq; rw [cellAt' HX2.out, Array.getElem?_eq_none (by show 2 ≤ i; omega)]))
              go_wp2_with (first
                | ((with_reducible refine loadVl (x := ?vx16) (b := (w.heap.size + 1)) (o := 0) t ⟨ra, rn, rc⟩ ?vg16 ?vo16 ?vxx16 ?vc16 ?_); (case vg16 => rfl); (case vo16 => rfl); (case vxx16 => rfl); (case vc16 => exact HX4.out.range))
                | ((with_reducible refine storeV (x := ?wx17) (y := ?wy17) (b := w.heap.size) t ⟨ra, rn, rc⟩ ?wg17 ?wo17 ?wxx17 ?wyy17 ?wc17 ?wh17); (case wg17 => rfl); (case wo17 => rfl); (case wxx17 => rfl); (case wyy17 => rfl); (case wc17 => exact HR4.out); intro W3 hO hU; have HO3 : Hid (OV W3 w.heap.size t ⟨ra, rn, rc⟩) := hid hO; have HB3 : Hid (Below w.heap.size W4 W3) := hid (hU.below w.heap.size (Nat.le_refl _)); have HUP := hid hU; clear hO hU)
                | fail)
              refine bodyPost_ret (ret_cell_tmp rfl rfl rfl HO3.out.range Try.underlying28 rfl (infoVl _ _)) rfl ⟨⟨ra, rn, rc⟩, ?_, ?_, HB4.out.trans HB3.out⟩
              · show Ending.returned (.tuple #[.agg (varr t ⟨ra, rn, rc⟩), .int .i64 0]) = _; unfold freshT; rw [HFE.out, HZ.out, if_pos rfl, HTT.out]
              · unfold freshL; rw [HFE.out, if_pos HZ.out]; exact HS4.out.updV HR4.out HUP.out
          · as_aux_lemma =>
              have HZ := hid hz
              have hzb : (e2 != 0) = true := by simpa using hz
              clear hz
              go_wp2_with (first
                | (clear tk1; go_at_call 31; refine (hV _).mono ?_; rintro e w' ⟨rfl, rfl⟩)
                | (go_at_call 32; refine hU.mono ?_; rintro e w2 ⟨r, rfl, ho, hB⟩; obtain ⟨ra, rc, rn, rfl, hrn⟩ := Own.asSlice ho; have HOW := hid ho; have HB2 := hid hB; have HR2 := hid (HR.out.on hB); have HX2 := hid (HX.out.on hB); clear ho hB hrn)
                | ((with_reducible refine storeV (x := ?wx15) (y := ?wy15) (b := w.heap.size) 0 zS ?wg15 ?wo15 ?wxx15 ?wyy15 ?wc15 ?wh15); (case wg15 => rfl); (case wo15 => rfl); (case wxx15 => rfl); (case wyy15 => rfl); (case wc15 => exact HR2.out); intro W3 hO hU; have HO3 : Hid (OV W3 w.heap.size 0 zS) := hid hO; have HB3 : Hid (Below w.heap.size w2 W3) := hid (hU.below w.heap.size (Nat.le_refl _)); have HUP := hid hU; clear hO hU)
                | fail)
              refine bodyPost_ret (ret_cell_tmp rfl rfl rfl HO3.out.range Try.underlying28 rfl (infoVl _ _)) rfl (FreshP.bad (x := e2) HFE.out HZ.out ((HB.out.trans (HB2.out.mono HB.out.size)).trans HB3.out))
end Go.Proofs.Ytbcmhnaiabifjaa
