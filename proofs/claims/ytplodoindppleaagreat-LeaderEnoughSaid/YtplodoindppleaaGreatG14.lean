import Derived.Test.YtplodoindppleaaGreatG12
namespace Go.Proofs.YtplodoindppleaaGreat
set_option linter.unusedVariables false
open Go.RowKit
open Go.Lib (hid)
set_option maxHeartbeats 8000000 in
set_option maxRecDepth 100000 in
theorem cSettled {v : Value} {ls : List Ms} {w : World} (h : SlM w v (mgs ls)) (hA : ∀ m ∈ ls, m.at w) (hl : ls.length ≤ 1000) : Calls Tryz.prog 99 #[v] w fun e w' => FoundP (ls.find? isS) (fun m => (m.m.vt, m.m.vp)) e ∧ Below w.heap.size w w' := by
 obtain ⟨b, o, cap, a, rfl, ha, hc, hb⟩ := h
 have hlm : (mgs ls).length = ls.length := by unfold mgs; rw [List.length_map]
 rw [hlm] at ha hb ⊢
 have HA := hid hA
 have HCC := hid hc
 obtain ⟨m, hm⟩ : ∃ m, m = ls.length := ⟨_, rfl⟩
 rw [← hm] at ha hb hl ⊢
 have HN := hid hm
 clear hm hA hc hlm
 go_enter Tryz.func99, Tryz.ntmps99
 go_wp2_with fail
 go_loopw [8] (fun i wr => ∃ k : Nat, k ≤ m ∧ i = .int .i64 k ∧ Hid (∀ x ∈ ls.take k, isS x = false) ∧ Hid (Below (w.alloc zeroVc).heap.size (w.alloc zeroVc) wr)) (fun i _ => m - (RowKit.intOf i).toNat)
 case atStart => exact ⟨0, Nat.zero_le _, rfl, hid (by simp), hid (Below.refl _ _)⟩
 case round =>
  obtain ⟨k, hk, rfl, HN0, HB0⟩ := hrel
  have HB : Hid (Below w.heap.size w wr) := hid (((Below.refl _ w).alloc (Nat.le_refl _) zeroVc).trans (HB0.out.mono (by simp)))
  have HR : Hid (RoomV wr w.heap.size) := hid ((roomVZ w).on HB0.out)
  by_cases hlt : k < m
  · have hlti : ((k : Int) < m) := by omega
    obtain rfl := ha (by omega)
    obtain ⟨y, hy⟩ : ∃ y, ls[k]? = some y := ⟨ls[k]'(by rw [← HN.out]; exact hlt), List.getElem?_eq_getElem (by rw [← HN.out]; exact hlt)⟩
    have hbw := hb (by omega)
    have HC : Hid (wr.rangeAt b (o + k * 20) y.m.list) := hid ((HCC.out.on HB.out fun _ => hbw) k y.m (at_mgs hy))
    have HY := hid hy
    have HYA := hid ((HA.out y (List.mem_of_getElem? hy)).on HB.out)
    clear hy hbw
    obtain ⟨so, hso⟩ : ∃ z, z = y.m.so := ⟨_, rfl⟩
    have HSO := hid hso
    clear hso
    by_cases h7 : so = 7
    · have HP : Hid (isS y = true) := hid (by unfold isS; rw [← HSO.out, h7]; rfl)
      go_wp2_with (first
       | ((with_reducible refine loadMl (x := ?lx1) (b := ?lb1) (o := ?lo1) y.m ?lg1 ?lp1 ?lxx1 ?lc1 ?_); (case lg1 => rfl); (case lp1 => rfl); (case lxx1 => rfl); (case lc1 => exact HC.out))
       | ((with_reducible refine storeM (x := ?sx2) (y := ?sy2) (b := wr.heap.size) y.m ?sg2 ?so2 ?sxx2 ?syy2 ?sc2 ?sh2); (case sg2 => rfl); (case so2 => rfl); (case sxx2 => rfl); (case syy2 => rfl); (case sc2 => exact roomZ wr); intro W1 hO hU; have HO1 := hid hO; have HB1 : Hid (Below wr.heap.size wr W1) := hid ((laid1_b wr zeroMc).trans (hU.below wr.heap.size (Nat.le_refl _))); have c0 : W1.cell? ⟨wr.heap.size, 0, none⟩ = some (.int .i64 so) := (by rw [HSO.out]; exact HO1.out.cell (m := y.m) (j := 0) rfl); have HR1 := hid (HR.out.on HB1.out); clear hO hU)
       | ((with_reducible refine loadVl (x := ?vx3) (b := wr.heap.size) (o := 11) y.m.vt y.m.vp ?vg3 ?vo3 ?vxx3 ?vc3 ?_); (case vg3 => rfl); (case vo3 => rfl); (case vxx3 => rfl); (case vc3 => exact HO1.out.vV))
       | ((with_reducible refine storeV (x := ?wx4) (y := ?wy4) (b := w.heap.size) y.m.vt y.m.vp ?wg4 ?wo4 ?wxx4 ?wyy4 ?wc4 ?wh4); (case wg4 => rfl); (case wo4 => rfl); (case wxx4 => rfl); (case wyy4 => rfl); (case wc4 => exact HR1.out); intro W2 hO hU; have HO2 := hid hO; have HB2 : Hid (Below w.heap.size W1 W2) := hid (hU.below w.heap.size (Nat.le_refl _)); clear hO hU)
       | fail)
      refine bodyPost_ret (ret_cell_tmp rfl rfl rfl HO2.out.range Tryz.underlying34 rfl (infoVl _ _)) rfl ⟨.hit y (find_hit HY.out HN0.out HP.out), ?_⟩
      exact (HB.out.trans (HB1.out.mono HB.out.size)).trans HB2.out
    · have HP : Hid (isS y = false) := hid (by unfold isS; rw [← HSO.out]; exact decide_eq_false h7)
      go_wp2_with (first
       | ((with_reducible refine loadMl (x := ?lx5) (b := ?lb5) (o := ?lo5) y.m ?lg5 ?lp5 ?lxx5 ?lc5 ?_); (case lg5 => rfl); (case lp5 => rfl); (case lxx5 => rfl); (case lc5 => exact HC.out))
       | ((with_reducible refine storeM (x := ?sx6) (y := ?sy6) (b := wr.heap.size) y.m ?sg6 ?so6 ?sxx6 ?syy6 ?sc6 ?sh6); (case sg6 => rfl); (case so6 => rfl); (case sxx6 => rfl); (case syy6 => rfl); (case sc6 => exact roomZ wr); intro W1 hO hU; have HO1 := hid hO; have HB1 : Hid (Below wr.heap.size wr W1) := hid ((laid1_b wr zeroMc).trans (hU.below wr.heap.size (Nat.le_refl _))); have c0 : W1.cell? ⟨wr.heap.size, 0, none⟩ = some (.int .i64 so) := (by rw [HSO.out]; exact HO1.out.cell (m := y.m) (j := 0) rfl); have HR1 := hid (HR.out.on HB1.out); clear hO hU)
       | fail)
      go_roundw
      case rel => exact ⟨k + 1, by omega, by go_num, hid (no_next HY.out HN0.out HP.out), hid (HB0.out.trans (HB1.out.mono HB0.out.size))⟩
      case measure => first | omega | (simp [RowKit.intOf]; omega)
  · have hlti : ¬ ((k : Int) < m) := by omega
    have HE : Hid (k = m) := hid (by omega)
    go_wp2_with (first
     | ((with_reducible refine storeV (x := ?wx7) (y := ?wy7) (b := w.heap.size) 0 zS ?wg7 ?wo7 ?wxx7 ?wyy7 ?wc7 ?wh7); (case wg7 => rfl); (case wo7 => rfl); (case wxx7 => rfl); (case wyy7 => rfl); (case wc7 => exact HR.out); intro W2 hO hU; have HO2 := hid hO; have HB2 : Hid (Below w.heap.size wr W2) := hid (hU.below w.heap.size (Nat.le_refl _)); clear hO hU)
     | fail)
    refine bodyPost_ret (ret_cell_tmp rfl rfl rfl HO2.out.range Tryz.underlying34 rfl (infoVl _ _)) rfl ⟨.miss (find_miss fun x hx => HN0.out x (by rw [HE.out, HN.out, List.take_length]; exact hx)), ?_⟩
    exact HB.out.trans HB2.out
theorem RoomV.below {w w' : World} {q B : Nat} (h : RoomV w q) (hb : Below B w w') (hq : q < B) : RoomV w' q := by
 obtain ⟨C, h1, h2⟩ := h
 exact ⟨C, (hb.block q hq).trans h1, h2⟩
def AccI (o : Option Ms) (x : Mg) : Prop := (o = none ∧ x = zM) ∨ ∃ z, o = some z ∧ x = z.m ∧ 0 < z.m.ab
theorem AccI.step {o : Option Ms} {x : Mg} {y : Ms} (h : AccI o x) : AccI (accS o y) (if x.ab < y.m.ab then y.m else x) := by
 rcases h with ⟨rfl, rfl⟩ | ⟨z, rfl, rfl, hz⟩
 · show AccI (if 0 < y.m.ab then some y else none) (if (0 : Int) < y.m.ab then y.m else zM)
   split
   · rename_i h; exact .inr ⟨y, rfl, rfl, h⟩
   · exact .inl ⟨rfl, rfl⟩
 · show AccI (if z.m.ab < y.m.ab then some y else some z) (if z.m.ab < y.m.ab then y.m else z.m)
   split
   · rename_i h; exact .inr ⟨y, rfl, rfl, by omega⟩
   · exact .inr ⟨z, rfl, rfl, hz⟩
theorem AccI.found {o : Option Ms} {x : Mg} (h : AccI o x) : FoundP o (fun m => (m.m.xt, m.m.xp)) (.returned (.tuple #[.agg (varr x.xt x.xp), .bool (decide (0 < x.ab))])) := by
 rcases h with ⟨rfl, rfl⟩ | ⟨z, rfl, rfl, hz⟩
 · exact .miss rfl
 · rw [decide_eq_true hz]; exact .hit z rfl
set_option maxHeartbeats 8000000 in
set_option maxRecDepth 100000 in
theorem cAccepted {v : Value} {ls : List Ms} {w : World} (h : SlM w v (mgs ls)) (hA : ∀ m ∈ ls, m.at w) (hl : ls.length ≤ 1000) : Calls Tryz.prog 101 #[v] w fun e w' => FoundP (accF ls) (fun m => (m.m.xt, m.m.xp)) e ∧ Below w.heap.size w w' := by
 obtain ⟨b, o, cap, a, rfl, ha, hc, hb⟩ := h
 have hlm : (mgs ls).length = ls.length := by unfold mgs; rw [List.length_map]
 rw [hlm] at ha hb ⊢
 have HA := hid hA
 have HCC := hid hc
 obtain ⟨m, hm⟩ : ∃ m, m = ls.length := ⟨_, rfl⟩
 rw [← hm] at ha hb hl ⊢
 have HN := hid hm
 clear hm hA hc hlm
 have HB00 : Hid (Below w.heap.size w ((w.alloc zeroVc).alloc zeroMc)) := hid (((Below.refl _ w).alloc (Nat.le_refl _) _).alloc (by simp) _)
 have HR00 : Hid (RoomV ((w.alloc zeroVc).alloc zeroMc) w.heap.size) := hid ((roomVZ w).on ((Below.refl _ _).alloc (Nat.le_refl _) _))
 have HX00 : Hid (OM ((w.alloc zeroVc).alloc zeroMc) (w.heap.size + 1) zM) := hid (laid2_1 w zeroVc zeroMc)
 go_enter Tryz.func101, Tryz.ntmps101
 go_wp2_with fail
 go_loopw [9] (fun i wr => ∃ (k : Nat) (x : Mg), k ≤ m ∧ i = .int .i64 k ∧ Hid (AccI (accF (ls.take k)) x) ∧ Hid (Below w.heap.size w wr) ∧ Hid (RoomV wr w.heap.size) ∧ Hid (OM wr (w.heap.size + 1) x)) (fun i _ => m - (RowKit.intOf i).toNat)
 case atStart => exact ⟨0, zM, Nat.zero_le _, rfl, hid (.inl ⟨rfl, rfl⟩), HB00, HR00, HX00⟩
 case round =>
  obtain ⟨k, x, hk, rfl, HI, HB, HR, HX⟩ := hrel
  clear HB00 HR00 HX00
  obtain ⟨xa, hxa⟩ : ∃ z, z = x.ab := ⟨_, rfl⟩
  have HXA := hid hxa
  clear hxa
  have HXL : Hid (w.heap.size + 1 < wr.heap.size) := hid (Array.getElem?_eq_some_iff.1 HX.out).1
  by_cases hlt : k < m
  · have hlti : ((k : Int) < m) := by omega
    obtain rfl := ha (by omega)
    obtain ⟨y, hy⟩ : ∃ y, ls[k]? = some y := ⟨ls[k]'(by rw [← HN.out]; exact hlt), List.getElem?_eq_getElem (by rw [← HN.out]; exact hlt)⟩
    have hbw := hb (by omega)
    have HC : Hid (wr.rangeAt b (o + k * 20) y.m.list) := hid ((HCC.out.on HB.out fun _ => hbw) k y.m (at_mgs hy))
    have HY := hid hy
    have HYA := hid ((HA.out y (List.mem_of_getElem? hy)).on HB.out)
    clear hy hbw
    obtain ⟨ya, hya⟩ : ∃ z, z = y.m.ab := ⟨_, rfl⟩
    have HYB := hid hya
    clear hya
    have hne : ¬ w.heap.size + 1 = wr.heap.size := by have := HXL.out; omega
    by_cases h7 : xa < ya
    · have HIN : Hid (AccI (accF (ls.take (k + 1))) y.m) := hid (by have := HI.out.step (y := y); rw [if_pos (by rw [← HXA.out, ← HYB.out]; exact h7), ← acc_next HY.out] at this; exact this)
      go_wp2_with (first
       | ((with_reducible refine loadMl (x := ?lx9) (b := ?lb9) (o := ?lo9) y.m ?lg9 ?lp9 ?lxx9 ?lc9 ?_); (case lg9 => rfl); (case lp9 => rfl); (case lxx9 => rfl); (case lc9 => exact HC.out))
       | ((with_reducible refine storeM (x := ?sx10) (y := ?sy10) (b := wr.heap.size) y.m ?sg10 ?so10 ?sxx10 ?syy10 ?sc10 ?sh10); (case sg10 => rfl); (case so10 => rfl); (case sxx10 => rfl); (case syy10 => rfl); (case sc10 => exact roomZ wr); intro W1 hO hU; have HO1 := hid hO; have HB1 : Hid (Below wr.heap.size wr W1) := hid ((laid1_b wr zeroMc).trans (hU.below wr.heap.size (Nat.le_refl _))); have HX1 : Hid (OM W1 (w.heap.size + 1) x) := hid (heapB HX.out HB1.out HXL.out); have c0 : W1.cell? ⟨wr.heap.size, 15, none⟩ = some (.int .i64 ya) := (by rw [HYB.out]; exact HO1.out.cell (m := y.m) (j := 15) rfl); have d0 : W1.cell? ⟨w.heap.size + 1, 15, none⟩ = some (.int .i64 xa) := (by rw [HXA.out]; exact HX1.out.cell (m := x) (j := 15) rfl); have HR1 := hid (HR.out.on HB1.out); clear hO hU)
       | ((with_reducible refine loadM (x := ?lx8) (b := wr.heap.size) y.m ?lg8 ?lo8 ?lxx8 ?lc8 ?lh8); (case lg8 => rfl); (case lo8 => rfl); (case lxx8 => rfl); (case lc8 => exact HO1.out))
       | ((with_reducible refine storeM (x := ?sx11) (y := ?sy11) (b := w.heap.size + 1) y.m ?sg11 ?so11 ?sxx11 ?syy11 ?sc11 ?sh11); (case sg11 => rfl); (case so11 => rfl); (case sxx11 => rfl); (case syy11 => rfl); (case sc11 => exact HX1.out.room); intro W2 hO hU; have HO2 := hid hO; have HB2 : Hid (Below (w.heap.size + 1) W1 W2) := hid (hU.below (w.heap.size + 1) (Nat.le_refl _)); clear hO hU)
       | fail)
      go_roundw
      case rel => exact ⟨k + 1, y.m, by omega, by go_num, HIN, hid ((HB.out.trans (HB1.out.mono HB.out.size)).trans (HB2.out.mono (Nat.le_succ _))), hid (HR1.out.below HB2.out (Nat.lt_succ_self _)), HO2⟩
      case measure => first | omega | (simp [RowKit.intOf]; omega)
    · have HIN : Hid (AccI (accF (ls.take (k + 1))) x) := hid (by have := HI.out.step (y := y); rw [if_neg (by rw [← HXA.out, ← HYB.out]; exact h7), ← acc_next HY.out] at this; exact this)
      go_wp2_with (first
       | ((with_reducible refine loadMl (x := ?lx12) (b := ?lb12) (o := ?lo12) y.m ?lg12 ?lp12 ?lxx12 ?lc12 ?_); (case lg12 => rfl); (case lp12 => rfl); (case lxx12 => rfl); (case lc12 => exact HC.out))
       | ((with_reducible refine storeM (x := ?sx13) (y := ?sy13) (b := wr.heap.size) y.m ?sg13 ?so13 ?sxx13 ?syy13 ?sc13 ?sh13); (case sg13 => rfl); (case so13 => rfl); (case sxx13 => rfl); (case syy13 => rfl); (case sc13 => exact roomZ wr); intro W1 hO hU; have HO1 := hid hO; have HB1 : Hid (Below wr.heap.size wr W1) := hid ((laid1_b wr zeroMc).trans (hU.below wr.heap.size (Nat.le_refl _))); have HX1 : Hid (OM W1 (w.heap.size + 1) x) := hid (heapB HX.out HB1.out HXL.out); have c0 : W1.cell? ⟨wr.heap.size, 15, none⟩ = some (.int .i64 ya) := (by rw [HYB.out]; exact HO1.out.cell (m := y.m) (j := 15) rfl); have d0 : W1.cell? ⟨w.heap.size + 1, 15, none⟩ = some (.int .i64 xa) := (by rw [HXA.out]; exact HX1.out.cell (m := x) (j := 15) rfl); have HR1 := hid (HR.out.on HB1.out); clear hO hU)
       | fail)
      go_roundw
      case rel => exact ⟨k + 1, x, by omega, by go_num, HIN, hid (HB.out.trans (HB1.out.mono HB.out.size)), HR1, HX1⟩
      case measure => first | omega | (simp [RowKit.intOf]; omega)
  · have hlti : ¬ ((k : Int) < m) := by omega
    have HE : Hid (k = m) := hid (by omega)
    have d0 : wr.cell? ⟨w.heap.size + 1, 15, none⟩ = some (.int .i64 xa) := (by rw [HXA.out]; exact HX.out.cell (m := x) (j := 15) rfl)
    have d1 : wr.cell? ⟨w.heap.size + 1, 16, none⟩ = some (.int .i64 x.xt) := HX.out.cell (m := x) (j := 16) rfl
    have d2 : wr.cell? ⟨w.heap.size + 1, 17, none⟩ = some (.slice x.xp.a x.xp.n x.xp.c) := HX.out.cell (m := x) (j := 17) rfl
    go_wp2_with fail
    have HX15 : Hid (∀ W, OM W (w.heap.size + 1) x ∧ Below w.heap.size wr W → W.cell? ⟨w.heap.size + 1, 15, none⟩ = some (.int .i64 xa)) := hid (fun W hW => by rw [HXA.out]; exact hW.1.cell (m := x) (j := 15) rfl)
    refine rh_start (S := fun W => OM W (w.heap.size + 1) x ∧ Below w.heap.size wr W) (n := 7) (listed := #[false, false, false, false, false, false, false]) (by kernel_rfl) rfl rfl ?_
    have HS0 : Hid (OM wr.drew (w.heap.size + 1) x ∧ Below w.heap.size wr wr.drew) := hid ⟨HX.out, (belowDrew (Below.refl _ wr)).mono HB.out.size⟩
    have HRD : Hid (RoomV wr.drew w.heap.size) := hid HR.out
    generalize wr.drew = wd at HS0 HRD ⊢
    refine tkS 0 ?o14 ?v14 ?l14 ?a14 ?hi14 ?hq14 ?hl14 ?hw14 ?hv14 ?ha14 HS0.out ?hh14
    case hi14 => (simp only [List.getElem?_toArray, List.getElem?_cons_zero]; try rfl)
    case hq14 => exact fun _ _ _ h => h
    case hl14 => (simp only [List.setIfInBounds_toArray, List.set_cons_zero]; try rfl)
    case hw14 => rfl
    case hv14 =>
     intro W hW
     go_simp
     try with_reducible rfl
    case ha14 => (simp only [Act.put,gD,gE,gF]; try rfl)
    refine rh_load (i := 1) (o := ?o15) (cs := vcs x.xt x.xp) (T := 34) (x := ?x15) (b := ?b15) (q := ?q15) (listed' := ?l15) (a' := ?a15) ?hi15 (by kernel_rfl) (by kernel_rfl) (by kernel_rfl) ?hq15 ?hl15 ?hg15 ?ho15 ?hx15 ?hc15 Tryz.underlying34 rfl (infoVl x.xt x.xp) ?ha15 HS0.out ?hh15
    case hi15 => (simp only [gA,gB,gC]; try rfl)
    case hq15 => exact fun _ _ _ h => h
    case hl15 => (simp only [gD,gE,gF]; try rfl)
    case hg15 => rfl
    case ho15 => rfl
    case hx15 => rfl
    case hc15 => exact fun W hW => OM.aV hW.1
    case ha15 => (show Act.put _ _ (Value.agg (varr x.xt x.xp)) = _); (simp only [Act.put,gD,gE,gF]; try rfl)
    refine tkS 2 ?o16 ?v16 ?l16 ?a16 ?hi16 ?hq16 ?hl16 ?hw16 ?hv16 ?ha16 HS0.out ?hh16
    case hi16 => (simp only [gA,gB,gC]; try rfl)
    case hq16 => exact fun _ _ _ h => h
    case hl16 => (simp only [gD,gE,gF]; try rfl)
    case hw16 => rfl
    case hv16 =>
     intro W hW
     have k0 := HX15.out W hW
     go_simp
     try with_reducible rfl
    case ha16 => (simp only [Act.put,gD,gE,gF]; try rfl)
    refine tkS 3 ?o17 ?v17 ?l17 ?a17 ?hi17 ?hq17 ?hl17 ?hw17 ?hv17 ?ha17 HS0.out ?hh17
    case hi17 => (simp only [gA,gB,gC]; try rfl)
    case hq17 => exact fun _ _ _ h => h
    case hl17 => (simp only [gD,gE,gF]; try rfl)
    case hw17 => rfl
    case hv17 =>
     intro W hW
     have k0 := HX15.out W hW
     go_simp
     try with_reducible rfl
    case ha17 => (simp only [Act.put,gD,gE,gF]; try rfl)
    refine tkS 4 ?o18 ?v18 ?l18 ?a18 ?hi18 ?hq18 ?hl18 ?hw18 ?hv18 ?ha18 HS0.out ?hh18
    case hi18 => (simp only [gA,gB,gC]; try rfl)
    case hq18 => exact fun _ _ _ h => h
    case hl18 => (simp only [gD,gE,gF]; try rfl)
    case hw18 => rfl
    case hv18 =>
     intro W hW
     have k0 := HX15.out W hW
     go_simp
     try with_reducible rfl
    case ha18 => (simp only [Act.put,gD,gE,gF]; try rfl)
    obtain ⟨C, hC1, hC2⟩ := HRD.out
    have HRC := hid (And.intro hC1 hC2)
    clear hC1 hC2
    refine wpAnyH_ready (rs := [5]) (by kernel_rfl) (by simp) ?_
    refine rh_storeN (i := 5) (o := ?o19) (listed' := ?l19) (x := ?x19) (y := ?y19) (b := w.heap.size) (T := 34) (varr x.xt x.xp) (infoVl' x.xt x.xp) (varr_one x.xt x.xp) ?hi19 ?hl19 ?hg19 ?ho19 ?hx19 ?hy19 ?hd19 HRC.out.1 HRC.out.2 ?hh19 ?hs19
    case hi19 => (simp only [gA,gB,gC]; try rfl)
    case hl19 => (simp only [gD,gE,gF]; try rfl)
    case hg19 => rfl
    case ho19 => rfl
    case hx19 => rfl
    case hy19 => rfl
    case hd19 => rfl
    case hs19 => exact AllReadyH.nil
    intro wq hO hU
    have HOq : Hid (OV wq w.heap.size x.xt x.xp) := hid hO
    have HBq : Hid (Below w.heap.size wd wq) := hid (hU.below _ (Nat.le_refl _))
    have HXq : Hid (OM wq (w.heap.size + 1) x) := hid ((hU.other _ (Array.getElem?_eq_some_iff.1 HS0.out.1).1 (by omega)).trans HS0.out.1)
    have HSq : Hid (OM wq (w.heap.size + 1) x ∧ Below w.heap.size wr wq) := hid ⟨HXq.out, HS0.out.2.trans HBq.out⟩
    clear hO hU
    refine ⟨HSq.out, ?_⟩
    refine tkS 6 ?o20 ?v20 ?l20 ?a20 ?hi20 ?hq20 ?hl20 ?hw20 ?hv20 ?ha20 HSq.out ?hh20
    case hi20 => (simp only [gA,gB,gC]; try rfl)
    case hq20 => exact fun _ _ _ h => h
    case hl20 => (simp only [gD,gE,gF]; try rfl)
    case hw20 => rfl
    case hv20 =>
     intro W hW
     go_simp
     try with_reducible rfl
    case ha20 => (simp only [Act.put,gD,gE,gF]; try rfl)
    refine wpAnyH_done (by kernel_rfl) ?_ _
    go_wp2_with fail
    refine bodyPost_ret (ret_cell_tmp rfl rfl rfl HOq.out.range Tryz.underlying34 rfl (infoVl _ _)) rfl ⟨?_, HB.out.trans HSq.out.2⟩
    have := HI.out.found
    rw [← HXA.out] at this
    rw [show ls.take k = ls by rw [HE.out, HN.out, List.take_length]] at this
    exact this
end Go.Proofs.YtplodoindppleaaGreat
namespace Go.Proofs.YtplodoindppleaaGreat
set_option linter.unusedVariables false
open Go.RowKit
open Go.Lib (hid)
theorem cCloneS {v : Value} {cs : List C7} {w : World} (h : Sl w v cs) (hl : cs.length ≤ 100000) : Calls Tryz.prog 54 #[v] w fun e w' => ∃ p : Sv, e = .returned p.v ∧ SetD w' p.v cs ∧ Below w.heap.size w w' := by
 rcases h.src with ⟨rfl, rfl⟩ | ⟨ad, cap, rfl, hc, _⟩
 · refine (cClone_nil w).mono ?_
   rintro e w' ⟨rfl, rfl⟩
   exact ⟨⟨none, 0, 0⟩, rfl, SetD.nil w, Below.refl _ _⟩
 · refine (cClone ad cap cs w hc hl).mono ?_
   rintro e w' ⟨g, cap', rfl, ho, hb⟩
   exact ⟨⟨_, _, _⟩, rfl, Own.setD ho, hb⟩
set_option maxHeartbeats 8000000 in
set_option maxRecDepth 100000 in
theorem cOwn {w : World} {t : Int} {p : Sv} {l : List C7} (h : Sl w p.v l) (hl : l.length ≤ 100000) : Calls Tryz.prog 100 #[.agg (varr t p)] w fun e w' => ∃ r : Sv, e = .returned (.agg (varr t r)) ∧ SetD w' r.v l ∧ Below w.heap.size w w' := by
 have HB := hid (laid2_b w (.cells (varr t p) 34) zeroVc)
 have HX : Hid (OV ((w.alloc (.cells (varr t p) 34)).alloc zeroVc) w.heap.size t p) := hid (laid2_0 w _ _)
 have HR : Hid (RoomV ((w.alloc (.cells (varr t p) 34)).alloc zeroVc) (w.heap.size + 1)) := hid ⟨_, laid2_1 w _ _, rfl⟩
 have HS := hid (h.on HB.out)
 have HL := hid hl
 clear h hl
 go_enter Tryz.func100, Tryz.ntmps100
 go_upto_region 1 with fail
 generalize ((w.alloc (.cells (varr t p) 34)).alloc zeroVc) = W0 at HB HX HR HS ⊢
 refine rh_start (S := fun W => Below w.heap.size w W ∧ OV W w.heap.size t p ∧ RoomV W (w.heap.size + 1) ∧ Sl W p.v l) (n := 7) (listed := #[false, false, false, false, false, false, false]) (by kernel_rfl) rfl rfl ?_
 have HS0 : Hid (Below w.heap.size w W0.drew ∧ OV W0.drew w.heap.size t p ∧ RoomV W0.drew (w.heap.size + 1) ∧ Sl W0.drew p.v l) := hid ⟨HB.out.trans ((belowDrew (Below.refl _ _)).mono HB.out.size), HX.out, HR.out, HS.out.on (belowDrew (Below.refl _ _))⟩
 generalize W0.drew = wd at HS0 ⊢
 clear HB HX HR HS
 refine tkS 0 ?o1 ?v1 ?l1 ?a1 ?hi1 ?hq1 ?hl1 ?hw1 ?hv1 ?ha1 HS0.out ?hh1
 case hi1 => (simp only [List.getElem?_toArray, List.getElem?_cons_zero]; try rfl)
 case hq1 => exact fun _ _ _ h => h
 case hl1 => (simp only [List.setIfInBounds_toArray, List.set_cons_zero]; try rfl)
 case hw1 => rfl
 case hv1 =>
  intro W hW
  have k0 : W.cell? ⟨w.heap.size, 0, none⟩ = some (.int .i64 t) := (cellAt' hW.2.1 0).trans rfl; have k1 : W.cell? ⟨w.heap.size, 1, none⟩ = some (.slice p.a p.n p.c) := (cellAt' hW.2.1 1).trans rfl
  go_simp
  try with_reducible rfl
 case ha1 => (simp only [Act.put,gD,gE,gF]; try rfl)
 refine tkS 1 ?o2 ?v2 ?l2 ?a2 ?hi2 ?hq2 ?hl2 ?hw2 ?hv2 ?ha2 HS0.out ?hh2
 case hi2 => (simp only [gA,gB,gC]; try rfl)
 case hq2 => exact fun _ _ _ h => h
 case hl2 => (simp only [gD,gE,gF]; try rfl)
 case hw2 => rfl
 case hv2 =>
  intro W hW
  have k0 : W.cell? ⟨w.heap.size, 0, none⟩ = some (.int .i64 t) := (cellAt' hW.2.1 0).trans rfl; have k1 : W.cell? ⟨w.heap.size, 1, none⟩ = some (.slice p.a p.n p.c) := (cellAt' hW.2.1 1).trans rfl
  go_simp
  try with_reducible rfl
 case ha2 => (simp only [Act.put,gD,gE,gF]; try rfl)
 refine tkS 2 ?o3 ?v3 ?l3 ?a3 ?hi3 ?hq3 ?hl3 ?hw3 ?hv3 ?ha3 HS0.out ?hh3
 case hi3 => (simp only [gA,gB,gC]; try rfl)
 case hq3 => exact fun _ _ _ h => h
 case hl3 => (simp only [gD,gE,gF]; try rfl)
 case hw3 => rfl
 case hv3 =>
  intro W hW
  have k0 : W.cell? ⟨w.heap.size, 0, none⟩ = some (.int .i64 t) := (cellAt' hW.2.1 0).trans rfl; have k1 : W.cell? ⟨w.heap.size, 1, none⟩ = some (.slice p.a p.n p.c) := (cellAt' hW.2.1 1).trans rfl
  go_simp
  try with_reducible rfl
 case ha3 => (simp only [Act.put,gD,gE,gF]; try rfl)
 refine tkS 3 ?o4 ?v4 ?l4 ?a4 ?hi4 ?hq4 ?hl4 ?hw4 ?hv4 ?ha4 HS0.out ?hh4
 case hi4 => (simp only [gA,gB,gC]; try rfl)
 case hq4 => exact fun _ _ _ h => h
 case hl4 => (simp only [gD,gE,gF]; try rfl)
 case hw4 => rfl
 case hv4 =>
  intro W hW
  have k0 : W.cell? ⟨w.heap.size, 0, none⟩ = some (.int .i64 t) := (cellAt' hW.2.1 0).trans rfl; have k1 : W.cell? ⟨w.heap.size, 1, none⟩ = some (.slice p.a p.n p.c) := (cellAt' hW.2.1 1).trans rfl
  go_simp
  try with_reducible rfl
 case ha4 => (simp only [Act.put,gD,gE,gF]; try rfl)
 refine wpAnyH_ready (rs := [4]) (by kernel_rfl) (by simp) ?_
 refine rh_cons (i := 4) (o := ?o5) (listed' := ?l5) ?hi5 ?hl5 ?hg5 ?hh5 ?hs5
 case hi5 => (simp only [gA,gB,gC]; try rfl)
 case hl5 => (simp only [gD,gE,gF]; try rfl)
 case hg5 => rfl
 case hs5 => exact AllReadyH.nil
 intro K hK
 go_simp
 refine (cCloneS HS0.out.2.2.2 HL.out).mono ?_
 rintro z w1 ⟨⟨ra, rn, rc⟩, rfl, hs, hB⟩
 have HS1 : Hid (Below w.heap.size w w1 ∧ OV w1 w.heap.size t p ∧ RoomV w1 (w.heap.size + 1) ∧ Sl w1 p.v l) := hid ⟨HS0.out.1.trans (hB.mono HS0.out.1.size), HS0.out.2.1.on hB, HS0.out.2.2.1.on hB, HS0.out.2.2.2.on hB⟩
 have HSr := hid hs
 clear hs hB
 refine hK.out _ _ HS1.out ?_
 clear hK K
 refine tkS 5 ?o6 ?v6 ?l6 ?a6 ?hi6 ?hq6 ?hl6 ?hw6 ?hv6 ?ha6 HS1.out ?hh6
 case hi6 => (simp only [gA,gB,gC]; try rfl)
 case hq6 => exact fun _ _ _ h => h
 case hl6 => (simp only [gD,gE,gF]; try rfl)
 case hw6 => rfl
 case hv6 =>
  intro W hW
  go_simp
  try with_reducible rfl
 case ha6 => (simp only [Act.put,gD,gE,gF]; try rfl)
 obtain ⟨C, hC1, hC2⟩ := HS1.out.2.2.1
 have HRC := hid (And.intro hC1 hC2)
 clear hC1 hC2
 refine wpAnyH_ready (rs := [6]) (by kernel_rfl) (by simp) ?_
 refine rh_storeN (i := 6) (o := ?o7) (listed' := ?l7) (x := ?x7) (y := ?y7) (b := w.heap.size + 1) (T := 34) (varr t ⟨ra, rn, rc⟩) (infoVl' t ⟨ra, rn, rc⟩) (varr_one t ⟨ra, rn, rc⟩) ?hi7 ?hl7 ?hg7 ?ho7 ?hx7 ?hy7 ?hd7 HRC.out.1 HRC.out.2 ?hh7 ?hs7
 case hi7 => (simp only [gA,gB,gC]; try rfl)
 case hl7 => (simp only [gD,gE,gF]; try rfl)
 case hg7 => rfl
 case ho7 => rfl
 case hx7 => rfl
 case hy7 => rfl
 case hd7 => rfl
 case hs7 => exact AllReadyH.nil
 intro wq hO hU
 have HOq : Hid (OV wq (w.heap.size + 1) t ⟨ra, rn, rc⟩) := hid hO
 have HBq : Hid (Below (w.heap.size + 1) w1 wq) := hid (hU.below _ (Nat.le_refl _))
 have HSq : Hid (Below w.heap.size w wq ∧ OV wq w.heap.size t p ∧ RoomV wq (w.heap.size + 1) ∧ Sl wq p.v l) := hid ⟨HS1.out.1.trans (HBq.out.mono (Nat.le_succ _)), (HBq.out.block _ (Nat.lt_succ_self _)).trans HS1.out.2.1, HOq.out.room, HS1.out.2.2.2.updV HS1.out.2.2.1 hU⟩
 have HSR : Hid (SetD wq (Sv.v ⟨ra, rn, rc⟩) l) := hid (HSr.out.updV HS1.out.2.2.1 hU)
 clear hO hU
 refine ⟨HSq.out, ?_⟩
 refine wpAnyH_done (by kernel_rfl) ?_ _
 go_wp2_with fail
 refine bodyPost_ret (ret_cell1 rfl rfl HOq.out.range Tryz.underlying34 rfl (infoVl _ _)) rfl ⟨_, rfl, HSR.out, HSq.out.1⟩
end Go.Proofs.YtplodoindppleaaGreat
