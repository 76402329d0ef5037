import Derived.Test.YtplodoindppleaaGreatG14
import Derived.Deep.QuietTactic
import Derived.BigQuiet
namespace Go.Proofs.YtplodoindppleaaGreat
set_option linter.unusedVariables false
open Go.RowKit
open Go.Lib (hid)
set_option maxHeartbeats 8000000 in
set_option maxRecDepth 100000 in
theorem cHowMany {v : Value} {ls : List Ms} {w : World} {z : Ms} (h : SlM w v (mgs ls)) (hA : ∀ m ∈ ls, m.at w) (hS : ∀ m ∈ ls, m.short 1024) (hl : ls.length ≤ 1000) (hz : z.at w) (hzs : z.short 1024) : Calls Tryz.prog 123 #[v, .agg (varr z.m.ft z.m.fp)] w fun e w' => e = .returned (.int .i64 (votesF ls z : Int)) ∧ Below w.heap.size w w' := by
 have HSH := hid hS
 clear hS
 obtain ⟨b, o, cap, a, rfl, ha, hc, hb⟩ := h
 have hlm : (mgs ls).length = ls.length := by unfold mgs; rw [List.length_map]
 rw [hlm] at ha hb ⊢
 have HA := hid hA
 have HCC := hid hc
 obtain ⟨m, hm⟩ : ∃ m, m = ls.length := ⟨_, rfl⟩
 rw [← hm] at ha hb hl ⊢
 have HN := hid hm
 clear hm hA hc hlm
 have HZ := hid hz
 have HZS := hid hzs
 clear hz hzs
 obtain ⟨zt, hzt⟩ : ∃ t, t = z.m.ft := ⟨_, rfl⟩
 obtain ⟨⟨pa, pn, pc⟩, hzp⟩ : ∃ p, p = z.m.fp := ⟨_, rfl⟩
 rw [← hzt, ← hzp]
 have HZT := hid hzt
 have HZP := hid hzp
 clear hzt hzp
 have HB00 := hid (laid1_b w (.cells (varr zt ⟨pa, pn, pc⟩) 34))
 have HX00 : Hid (OV (w.alloc (.cells (varr zt ⟨pa, pn, pc⟩) 34)) w.heap.size zt ⟨pa, pn, pc⟩) := hid (laid1_0 w _)
 have hm1 : m ≤ 1000 := by omega
 go_enter Tryz.func123, Tryz.ntmps123
 go_wp2_with fail
 go_loopw [5, 10] (fun s5 i wr => ∃ (k n : Nat), k ≤ m ∧ n ≤ k ∧ i = .int .i64 k ∧ s5 = .int .i64 n ∧ Hid (n = votesF (ls.take k) z) ∧ Hid (Below w.heap.size w wr) ∧ Hid (OV wr w.heap.size zt ⟨pa, pn, pc⟩)) (fun _ i _ => m - (RowKit.intOf i).toNat)
 case atStart => exact ⟨0, 0, Nat.zero_le _, Nat.le_refl _, rfl, rfl, hid rfl, HB00, HX00⟩
 case round =>
  obtain ⟨k, n, hk, hnk, rfl, rfl, HV, HB, HX⟩ := hrel
  clear HB00 HX00
  by_cases hlt : k < m
  · have hlti : ((k : Int) < m) := by omega
    obtain rfl := ha (by omega)
    obtain ⟨y, hy⟩ : ∃ y, ls[k]? = some y := ⟨ls[k]'(by rw [← HN.out]; exact hlt), List.getElem?_eq_getElem (by rw [← HN.out]; exact hlt)⟩
    have hbw := hb (by omega)
    have HC : Hid (wr.rangeAt b (o + k * 20) y.m.list) := hid ((HCC.out.on HB.out fun _ => hbw) k y.m (at_mgs hy))
    have HY := hid hy
    have HYA := hid ((HA.out y (List.mem_of_getElem? hy)).on HB.out)
    clear hy hbw
    obtain ⟨yt, hyt⟩ : ∃ z, z = y.m.ft := ⟨_, rfl⟩
    have HYT := hid hyt
    clear hyt
    have HYS := hid (HSH.out y (List.mem_of_getElem? HY.out))
    obtain ⟨sb, hsb⟩ : ∃ b, b = sameB y.f z.f := ⟨_, rfl⟩
    have HSB := hid hsb
    clear hsb
    have HSM : Hid (∀ W, Below wr.heap.size wr W → Calls Tryz.prog 103 #[.slice y.m.fp.a y.m.fp.n y.m.fp.c, .slice pa pn pc] W fun e w' => e = .returned (.bool sb) ∧ Below W.heap.size W w') := hid (fun W hW => by rw [HSB.out]; exact cSame (HYA.out.2.2.on hW) (show Sl W (Sv.v ⟨pa, pn, pc⟩) z.f by rw [HZP.out]; exact (HZ.out.2.2.on HB.out).on hW) (Nat.le_trans HYS.out.2.2 (by decide)) (Nat.le_trans HZS.out.2.2 (by decide)))
    have HVN : Hid (votesF (ls.take (k + 1)) z = n + if (decide (yt = zt) && sb) = true then 1 else 0) := hid (by rw [votes_next HY.out, ← HV.out, HYT.out, HZT.out, HSB.out]; rfl)
    by_cases h7 : yt = zt
    · rcases sb with _ | _
      · have HE : Hid ((decide (yt = zt) && false) = false) := hid (by simp)
        go_wp2_with (first
         | ((with_reducible refine loadMl (x := ?lx1) (b := ?lb1) (o := ?lo1) y.m ?lg1 ?lp1 ?lxx1 ?lc1 ?_); (case lg1 => rfl); (case lp1 => rfl); (case lxx1 => rfl); (case lc1 => exact HC.out))
         | ((with_reducible refine storeM (x := ?sx2) (y := ?sy2) (b := wr.heap.size) y.m ?sg2 ?so2 ?sxx2 ?syy2 ?sc2 ?sh2); (case sg2 => rfl); (case so2 => rfl); (case sxx2 => rfl); (case syy2 => rfl); (case sc2 => exact roomZ wr); intro W1 hO hU; have HO1 := hid hO; have HB1 : Hid (Below wr.heap.size wr W1) := hid ((laid1_b wr zeroMc).trans (hU.below wr.heap.size (Nat.le_refl _))); have HX1 := hid (HX.out.on HB1.out); have c0 : W1.cell? ⟨wr.heap.size, 18, none⟩ = some (.int .i64 yt) := (by rw [HYT.out]; exact HO1.out.cell (m := y.m) (j := 18) rfl); have c1 : W1.cell? ⟨wr.heap.size, 19, none⟩ = some (.slice y.m.fp.a y.m.fp.n y.m.fp.c) := HO1.out.cell (m := y.m) (j := 19) rfl; have d0 : W1.cell? ⟨w.heap.size, 0, none⟩ = some (.int .i64 zt) := (cellAt' HX1.out 0).trans rfl; have d1 : W1.cell? ⟨w.heap.size, 1, none⟩ = some (.slice pa pn pc) := (cellAt' HX1.out 1).trans rfl; clear hO hU)
         | (go_at_call 103; refine (HSM.out _ HB1.out).mono ?_; rintro e w2 ⟨rfl, hB⟩; have HB2 := hid hB; clear hB)
         | fail)
        go_roundw
        case rel => exact ⟨k + 1, n, by omega, by omega, by go_num, by first | rfl | go_num, hid (by rw [HVN.out]; simp [HE.out]), hid ((HB.out.trans (HB1.out.mono HB.out.size)).trans (HB2.out.mono (Nat.le_trans HB.out.size HB1.out.size))), (hid (HX1.out.on HB2.out))⟩
        case measure => first | omega | (simp [RowKit.intOf]; omega)
      · have HE : Hid ((decide (yt = zt) && true) = true) := hid (by simp [h7])
        go_wp2_with (first
         | ((with_reducible refine loadMl (x := ?lx3) (b := ?lb3) (o := ?lo3) y.m ?lg3 ?lp3 ?lxx3 ?lc3 ?_); (case lg3 => rfl); (case lp3 => rfl); (case lxx3 => rfl); (case lc3 => exact HC.out))
         | ((with_reducible refine storeM (x := ?sx4) (y := ?sy4) (b := wr.heap.size) y.m ?sg4 ?so4 ?sxx4 ?syy4 ?sc4 ?sh4); (case sg4 => rfl); (case so4 => rfl); (case sxx4 => rfl); (case syy4 => rfl); (case sc4 => exact roomZ wr); intro W1 hO hU; have HO1 := hid hO; have HB1 : Hid (Below wr.heap.size wr W1) := hid ((laid1_b wr zeroMc).trans (hU.below wr.heap.size (Nat.le_refl _))); have HX1 := hid (HX.out.on HB1.out); have c0 : W1.cell? ⟨wr.heap.size, 18, none⟩ = some (.int .i64 yt) := (by rw [HYT.out]; exact HO1.out.cell (m := y.m) (j := 18) rfl); have c1 : W1.cell? ⟨wr.heap.size, 19, none⟩ = some (.slice y.m.fp.a y.m.fp.n y.m.fp.c) := HO1.out.cell (m := y.m) (j := 19) rfl; have d0 : W1.cell? ⟨w.heap.size, 0, none⟩ = some (.int .i64 zt) := (cellAt' HX1.out 0).trans rfl; have d1 : W1.cell? ⟨w.heap.size, 1, none⟩ = some (.slice pa pn pc) := (cellAt' HX1.out 1).trans rfl; clear hO hU)
         | (go_at_call 103; refine (HSM.out _ HB1.out).mono ?_; rintro e w2 ⟨rfl, hB⟩; have HB2 := hid hB; clear hB)
         | fail)
        go_roundw
        case rel => exact ⟨k + 1, n + 1, by omega, by omega, by go_num, by first | rfl | go_num, hid (by rw [HVN.out]; simp [HE.out]), hid ((HB.out.trans (HB1.out.mono HB.out.size)).trans (HB2.out.mono (Nat.le_trans HB.out.size HB1.out.size))), (hid (HX1.out.on HB2.out))⟩
        case measure => first | omega | (simp [RowKit.intOf]; omega)
    · have HE : Hid ((decide (yt = zt) && sb) = false) := hid (by simp [h7])
      go_wp2_with (first
       | ((with_reducible refine loadMl (x := ?lx5) (b := ?lb5) (o := ?lo5) y.m ?lg5 ?lp5 ?lxx5 ?lc5 ?_); (case lg5 => rfl); (case lp5 => rfl); (case lxx5 => rfl); (case lc5 => exact HC.out))
       | ((with_reducible refine storeM (x := ?sx6) (y := ?sy6) (b := wr.heap.size) y.m ?sg6 ?so6 ?sxx6 ?syy6 ?sc6 ?sh6); (case sg6 => rfl); (case so6 => rfl); (case sxx6 => rfl); (case syy6 => rfl); (case sc6 => exact roomZ wr); intro W1 hO hU; have HO1 := hid hO; have HB1 : Hid (Below wr.heap.size wr W1) := hid ((laid1_b wr zeroMc).trans (hU.below wr.heap.size (Nat.le_refl _))); have HX1 := hid (HX.out.on HB1.out); have c0 : W1.cell? ⟨wr.heap.size, 18, none⟩ = some (.int .i64 yt) := (by rw [HYT.out]; exact HO1.out.cell (m := y.m) (j := 18) rfl); have c1 : W1.cell? ⟨wr.heap.size, 19, none⟩ = some (.slice y.m.fp.a y.m.fp.n y.m.fp.c) := HO1.out.cell (m := y.m) (j := 19) rfl; have d0 : W1.cell? ⟨w.heap.size, 0, none⟩ = some (.int .i64 zt) := (cellAt' HX1.out 0).trans rfl; have d1 : W1.cell? ⟨w.heap.size, 1, none⟩ = some (.slice pa pn pc) := (cellAt' HX1.out 1).trans rfl; clear hO hU)
       | fail)
      go_roundw
      case rel => exact ⟨k + 1, n, by omega, by omega, by go_num, by first | rfl | go_num, hid (by rw [HVN.out]; simp [HE.out]), hid (HB.out.trans (HB1.out.mono HB.out.size)), HX1⟩
      case measure => first | omega | (simp [RowKit.intOf]; omega)
  · have hlti : ¬ ((k : Int) < m) := by omega
    have HE : Hid (k = m) := hid (by omega)
    go_wp2_with fail
    go_ret
    exact ⟨by have := HV.out; rw [HE.out, HN.out, List.take_length] at this; show Ending.returned (.int .i64 (n : Int)) = _; rw [this], HB.out⟩
end Go.Proofs.YtplodoindppleaaGreat
namespace Go.Proofs.YtplodoindppleaaGreat
set_option linter.unusedVariables false
open Go.RowKit
open Go.Lib (hid)
theorem mgs_at {ls : List Ms} {k : Nat} {x : Mg} (h : (mgs ls)[k]? = some x) : ∃ y, ls[k]? = some y ∧ y.m = x := by
 unfold mgs at h
 rw [List.getElem?_map] at h
 rcases hy : ls[k]? with _ | y
 · rw [hy] at h; cases h
 · rw [hy] at h; exact ⟨y, rfl, Option.some.inj h⟩
set_option maxHeartbeats 1600000 in
set_option maxRecDepth 100000 in
theorem cIsProm (x : Mg) (w : World) : Calls Tryz.prog 132 #[.agg x.arr] w fun e w' => e = .returned (.bool (decide (x.so = 4))) ∧ Below w.heap.size w w' := by
 have HB := hid (laid1_b w (.cells x.arr 48))
 have HM : Hid (OM (w.alloc (.cells x.arr 48)) w.heap.size x) := hid (laid1_0 w _)
 obtain ⟨so, hso⟩ : ∃ z, z = x.so := ⟨_, rfl⟩
 rw [← hso]
 have HSO := hid hso
 clear hso
 go_enter Tryz.func132, Tryz.ntmps132
 go_upto_region 1 with fail
 generalize (w.alloc (.cells x.arr 48)) = W0 at HB HM ⊢
 have k0 : W0.cell? ⟨w.heap.size, 0, none⟩ = some (.int .i64 so) := by rw [HSO.out]; exact HM.out.cell (m := x) (j := 0) rfl
 by_cases h : so = 4
 · go_wp2_with fail
   go_ret
   exact ⟨by simp [h], HB.out⟩
 · go_wp2_with fail
   go_ret
   exact ⟨by simp [h], HB.out⟩
set_option maxHeartbeats 1600000 in
set_option maxRecDepth 100000 in
theorem cIsFree (x : Mg) (w : World) : Calls Tryz.prog 121 #[.agg x.arr] w fun e w' => e = .returned (.bool x.fl) ∧ Below w.heap.size w w' := by
 have HB := hid (laid1_b w (.cells x.arr 48))
 have HM : Hid (OM (w.alloc (.cells x.arr 48)) w.heap.size x) := hid (laid1_0 w _)
 go_enter Tryz.func121, Tryz.ntmps121
 go_upto_region 1 with fail
 generalize (w.alloc (.cells x.arr 48)) = W0 at HB HM ⊢
 have k0 : W0.cell? ⟨w.heap.size, 13, none⟩ = some (.bool x.fl) := HM.out.cell (m := x) (j := 13) rfl
 go_wp2_with fail
 go_ret
 exact ⟨rfl, HB.out⟩
set_option maxHeartbeats 1600000 in
set_option maxRecDepth 100000 in
theorem cAnyFree {v : Value} {ls : List Ms} {w : World} (h : SlM w v (mgs ls)) (hl : ls.length ≤ 1000) : Calls Tryz.prog 64 #[v, .func (.func 121) #[] #[]] w fun e w' => e = .returned (.bool (flagB ls)) ∧ Below w.heap.size w w' := by
 have eg : ∀ args w, (callFunc 121 args).run Tryz.prog w = .ok (.enter 121 args) w := enters_of Tryz.func121 (by kernel_rfl) rfl
 have hI := cIndexFuncM h (by unfold mgs; rw [List.length_map]; omega) (fun x => x.fl) 121 #[] eg (fun W x _ => cIsFree x W)
 have hlm : (mgs ls).length = ls.length := by unfold mgs; rw [List.length_map]
 have HL := hid hl
 have HLM := hid hlm
 clear hl hlm
 obtain ⟨b, o, cap, a, rfl, ha, hc, hb⟩ := h
 clear ha hc hb
 rw [HLM.out] at hI ⊢
 go_enter Tryz.func64, Tryz.ntmps64
 go_wp2_with fail
 go_at_call 95
 refine hI.mono ?_
 rintro e w1 ⟨hi, hB1⟩
 have HB1 := hid hB1
 clear hI hB1
 rcases hi with hm | ⟨k, x, hx, hpx, hpn⟩
 · have HE : Hid (flagB ls = false) := hid (by
    unfold flagB
    rw [List.any_eq_false]
    intro m hm'
    have := hm m.m (List.mem_map.2 ⟨m, hm', rfl⟩)
    simp [this])
   clear hm
   go_wp2_with fail
   go_ret
   exact ⟨by rw [HE.out]; rfl, HB1.out⟩
 · obtain ⟨y, hy, rfl⟩ := mgs_at hx
   have HE : Hid (flagB ls = true) := hid (by
    unfold flagB
    rw [List.any_eq_true]
    exact ⟨y, List.mem_of_getElem? hy, hpx⟩)
   have hk : k < 1000 := by have := (List.getElem?_eq_some_iff.1 hy).1; have := HL.out; omega
   have hk0 : (0 : Int) ≤ (k : Int) := by omega
   clear hx hpx hpn hy
   go_wp2_with fail
   go_ret
   exact ⟨by rw [HE.out]; simp, HB1.out⟩
set_option maxHeartbeats 8000000 in
set_option maxRecDepth 100000 in
theorem cBallots {v : Value} {ls : List Ms} {w : World} (h : SlM w v (mgs ls)) (hA : ∀ m ∈ ls, m.at w) (hl : ls.length ≤ 1000) : Calls Tryz.prog 120 #[v] w fun e w' => e = .returned (.bool (ballB ls)) ∧ Below w.heap.size w w' := by
 have eg : ∀ args w, (callFunc 132 args).run Tryz.prog w = .ok (.enter 132 args) w := enters_of Tryz.func132 (by kernel_rfl) rfl
 have hI := cIndexFuncM h (by unfold mgs; rw [List.length_map]; omega) (fun x => decide (x.so = 4)) 132 #[] eg (fun W x _ => cIsProm x W)
 obtain ⟨b, o, cap, a, rfl, ha, hc, hb⟩ := h
 have hlm : (mgs ls).length = ls.length := by unfold mgs; rw [List.length_map]
 rw [hlm] at ha hb hI ⊢
 have HA := hid hA
 have HCC := hid hc
 obtain ⟨m, hm⟩ : ∃ m, m = ls.length := ⟨_, rfl⟩
 rw [← hm] at ha hb hl hI ⊢
 have HN := hid hm
 clear hm hA hc hlm
 go_enter Tryz.func120, Tryz.ntmps120
 go_wp2_with fail
 go_at_call 95
 refine hI.mono ?_
 rintro e w1 ⟨hi, hB1⟩
 have HB1 := hid hB1
 clear hI hB1
 rcases hi with hm | ⟨k0, x, hx, hpx, hpn⟩
 · have HMI := hid hm
   clear hm
   go_wp2_with fail
   go_loopw [10] (fun i wr => ∃ k : Nat, k ≤ m ∧ i = .int .i64 k ∧ Hid (True) ∧ Hid (Below w.heap.size w wr)) (fun i _ => m - (RowKit.intOf i).toNat)
   case atStart => exact ⟨0, Nat.zero_le _, rfl, hid trivial, HB1⟩
   case round =>
    obtain ⟨k, hk, rfl, HI, HB⟩ := hrel
    by_cases hlt : k < m
    · have hlti : ((k : Int) < m) := by omega
      obtain rfl := ha (by omega)
      obtain ⟨y, hy⟩ : ∃ y, ls[k]? = some y := ⟨ls[k]'(by rw [← HN.out]; exact hlt), List.getElem?_eq_getElem (by rw [← HN.out]; exact hlt)⟩
      have hbw := hb (by omega)
      have HC : Hid (wr.rangeAt b (o + k * 20) y.m.list) := hid ((HCC.out.on HB.out fun _ => hbw) k y.m (at_mgs hy))
      have HY := hid hy
      have HYA := hid ((HA.out y (List.mem_of_getElem? hy)).on HB.out)
      clear hy hbw
      obtain ⟨so, hso⟩ : ∃ z, z = y.m.so := ⟨_, rfl⟩
      have HSO := hid hso
      clear hso
      have hne : ¬ so = 4 := by have := HMI.out y.m (List.mem_map.2 ⟨y, List.mem_of_getElem? HY.out, rfl⟩); rw [HSO.out]; simpa using this
      go_wp2_with (first
       | ((with_reducible refine loadMl (x := ?lx1) (b := ?lb1) (o := ?lo1) y.m ?lg1 ?lp1 ?lxx1 ?lc1 ?_); (case lg1 => rfl); (case lp1 => rfl); (case lxx1 => rfl); (case lc1 => exact HC.out))
       | ((with_reducible refine storeM (x := ?sx2) (y := ?sy2) (b := wr.heap.size) y.m ?sg2 ?so2 ?sxx2 ?syy2 ?sc2 ?sh2); (case sg2 => rfl); (case so2 => rfl); (case sxx2 => rfl); (case syy2 => rfl); (case sc2 => exact roomZ wr); intro W1 hO hU; have HO1 := hid hO; have HB2 : Hid (Below wr.heap.size wr W1) := hid ((laid1_b wr zeroMc).trans (hU.below wr.heap.size (Nat.le_refl _))); have c0 : W1.cell? ⟨wr.heap.size, 0, none⟩ = some (.int .i64 so) := (by rw [HSO.out]; exact HO1.out.cell (m := y.m) (j := 0) rfl); clear hO hU)
       | fail)
      go_quiet (fail)
      go_wp2_with fail
      go_roundw
      case rel => exact ⟨k + 1, by omega, by go_num, hid trivial, hid (by first | exact HB.out.trans (HB2.out.mono HB.out.size) | exact Below.drewN' (HB.out.trans (HB2.out.mono HB.out.size)) _)⟩
      case measure => first | omega | (simp [RowKit.intOf]; omega)
    · have hlti : ¬ ((k : Int) < m) := by omega
      have HE : Hid (ballB ls = true) := hid (ball_yes fun f hf => absurd hf (by rw [find_miss (fun x hx => by have := HMI.out x.m (List.mem_map.2 ⟨x, hx, rfl⟩); exact this)]; simp))
      go_wp2_with fail
      go_ret
      exact ⟨ret_bool HE.out.symm, HB.out⟩
 · obtain ⟨f, hf, rfl⟩ := mgs_at hx
   have HF := hid hf
   have HFF : Hid (ls.find? isP = some f) := hid (find_hit hf (fun y hy => hpn y.m (by unfold mgs; rw [← List.map_take]; exact List.mem_map.2 ⟨y, hy, rfl⟩)) hpx)
   have hk0 : k0 < m := by have := (List.getElem?_eq_some_iff.1 hf).1; have := HN.out; omega
   have hk0i : (k0 : Int) < m := by omega
   have hk0p : (0 : Int) ≤ (k0 : Int) := by omega
   have HBW := hid (hb (by omega))
   obtain ⟨fb, hfb⟩ : ∃ z, z = f.m.bal := ⟨_, rfl⟩
   have HFB := hid hfb
   clear hfb hx hpx hpn hf
   go_wp2_with fail
   go_loopw [10] (fun i wr => ∃ k : Nat, k ≤ m ∧ i = .int .i64 k ∧ Hid (∀ x ∈ ls.take k, isP x = true → x.m.bal = f.m.bal) ∧ Hid (Below w.heap.size w wr)) (fun i _ => m - (RowKit.intOf i).toNat)
   case atStart => exact ⟨0, Nat.zero_le _, rfl, hid (by simp), HB1⟩
   case round =>
    obtain ⟨k, hk, rfl, HI, HB⟩ := hrel
    by_cases hlt : k < m
    · have hlti : ((k : Int) < m) := by omega
      obtain rfl := ha (by omega)
      obtain ⟨y, hy⟩ : ∃ y, ls[k]? = some y := ⟨ls[k]'(by rw [← HN.out]; exact hlt), List.getElem?_eq_getElem (by rw [← HN.out]; exact hlt)⟩
      have hbw := hb (by omega)
      have HC : Hid (wr.rangeAt b (o + k * 20) y.m.list) := hid ((HCC.out.on HB.out fun _ => hbw) k y.m (at_mgs hy))
      have HY := hid hy
      have HYA := hid ((HA.out y (List.mem_of_getElem? hy)).on HB.out)
      clear hy hbw
      obtain ⟨so, hso⟩ : ∃ z, z = y.m.so := ⟨_, rfl⟩
      have HSO := hid hso
      clear hso
      obtain ⟨yb, hyb⟩ : ∃ z, z = y.m.bal := ⟨_, rfl⟩
      have HYB := hid hyb
      clear hyb
      have HC0 : Hid (wr.cell? ⟨b, o + k0 * 20 + 3, none⟩ = some (.int .i64 fb)) := hid (by rw [HFB.out]; have hh := (HCC.out.on HB.out fun _ => HBW.out) k0 f.m (at_mgs HF.out); exact hh 3 _ rfl)
      by_cases h4 : so = 4
      · have s4 : (so == 4) = true := by simp [h4]
        have HH4 := hid h4
        clear h4
        by_cases h3 : yb = fb
        · have HH3 := hid h3
          have s3 : (yb != fb) = false := by simp [h3]
          clear h3
          go_wp2_with (first
           | ((with_reducible refine loadMl (x := ?lx3) (b := ?lb3) (o := ?lo3) y.m ?lg3 ?lp3 ?lxx3 ?lc3 ?_); (case lg3 => rfl); (case lp3 => rfl); (case lxx3 => rfl); (case lc3 => exact HC.out))
           | ((with_reducible refine storeM (x := ?sx4) (y := ?sy4) (b := wr.heap.size) y.m ?sg4 ?so4 ?sxx4 ?syy4 ?sc4 ?sh4); (case sg4 => rfl); (case so4 => rfl); (case sxx4 => rfl); (case syy4 => rfl); (case sc4 => exact roomZ wr); intro W1 hO hU; have HO1 := hid hO; have HB2 : Hid (Below wr.heap.size wr W1) := hid ((laid1_b wr zeroMc).trans (hU.below wr.heap.size (Nat.le_refl _))); have c0 : W1.cell? ⟨wr.heap.size, 0, none⟩ = some (.int .i64 so) := (by rw [HSO.out]; exact HO1.out.cell (m := y.m) (j := 0) rfl); have c3 : W1.cell? ⟨wr.heap.size, 3, none⟩ = some (.int .i64 yb) := (by rw [HYB.out]; exact HO1.out.cell (m := y.m) (j := 3) rfl); have f3 : W1.cell? ⟨b, o + k0 * 20 + 3, none⟩ = some (.int .i64 fb) := (HB2.out.cell (Nat.lt_of_lt_of_le HBW.out HB.out.size)).trans HC0.out; clear hO hU)
           | fail)
          go_quiet (fail)
          go_wp2_with fail
          go_roundw
          case rel => exact ⟨k + 1, by omega, by go_num, hid (fun x hx hp => by rw [List.take_add_one, HY.out] at hx; rcases List.mem_append.1 hx with hx | hx; exact HI.out x hx hp; simp at hx; subst hx; rw [← HYB.out, ← HFB.out]; exact HH3.out), hid (by first | exact HB.out.trans (HB2.out.mono HB.out.size) | exact Below.drewN' (HB.out.trans (HB2.out.mono HB.out.size)) _)⟩
          case measure => first | omega | (simp [RowKit.intOf]; omega)
        · have HE : Hid (ballB ls = false) := hid (ball_no HFF.out (List.mem_of_getElem? HY.out) (by unfold isP; rw [← HSO.out, HH4.out]; rfl) (by rw [← HYB.out, ← HFB.out]; exact h3))
          have s3 : (yb != fb) = true := by simpa using h3
          clear h3
          go_wp2_with (first
           | ((with_reducible refine loadMl (x := ?lx5) (b := ?lb5) (o := ?lo5) y.m ?lg5 ?lp5 ?lxx5 ?lc5 ?_); (case lg5 => rfl); (case lp5 => rfl); (case lxx5 => rfl); (case lc5 => exact HC.out))
           | ((with_reducible refine storeM (x := ?sx6) (y := ?sy6) (b := wr.heap.size) y.m ?sg6 ?so6 ?sxx6 ?syy6 ?sc6 ?sh6); (case sg6 => rfl); (case so6 => rfl); (case sxx6 => rfl); (case syy6 => rfl); (case sc6 => exact roomZ wr); intro W1 hO hU; have HO1 := hid hO; have HB2 : Hid (Below wr.heap.size wr W1) := hid ((laid1_b wr zeroMc).trans (hU.below wr.heap.size (Nat.le_refl _))); have c0 : W1.cell? ⟨wr.heap.size, 0, none⟩ = some (.int .i64 so) := (by rw [HSO.out]; exact HO1.out.cell (m := y.m) (j := 0) rfl); have c3 : W1.cell? ⟨wr.heap.size, 3, none⟩ = some (.int .i64 yb) := (by rw [HYB.out]; exact HO1.out.cell (m := y.m) (j := 3) rfl); have f3 : W1.cell? ⟨b, o + k0 * 20 + 3, none⟩ = some (.int .i64 fb) := (HB2.out.cell (Nat.lt_of_lt_of_le HBW.out HB.out.size)).trans HC0.out; clear hO hU)
           | fail)
          go_quiet (fail)
          go_wp2_with fail
          go_ret
          exact ⟨ret_bool HE.out.symm, by first | exact HB.out.trans (HB2.out.mono HB.out.size) | exact Below.drewN' (HB.out.trans (HB2.out.mono HB.out.size)) _⟩
      · have HN4 := hid h4
        go_wp2_with (first
         | ((with_reducible refine loadMl (x := ?lx7) (b := ?lb7) (o := ?lo7) y.m ?lg7 ?lp7 ?lxx7 ?lc7 ?_); (case lg7 => rfl); (case lp7 => rfl); (case lxx7 => rfl); (case lc7 => exact HC.out))
         | ((with_reducible refine storeM (x := ?sx8) (y := ?sy8) (b := wr.heap.size) y.m ?sg8 ?so8 ?sxx8 ?syy8 ?sc8 ?sh8); (case sg8 => rfl); (case so8 => rfl); (case sxx8 => rfl); (case syy8 => rfl); (case sc8 => exact roomZ wr); intro W1 hO hU; have HO1 := hid hO; have HB2 : Hid (Below wr.heap.size wr W1) := hid ((laid1_b wr zeroMc).trans (hU.below wr.heap.size (Nat.le_refl _))); have c0 : W1.cell? ⟨wr.heap.size, 0, none⟩ = some (.int .i64 so) := (by rw [HSO.out]; exact HO1.out.cell (m := y.m) (j := 0) rfl); clear hO hU)
         | fail)
        go_quiet (fail)
        go_wp2_with fail
        go_roundw
        case rel => exact ⟨k + 1, by omega, by go_num, hid (fun x hx hp => by rw [List.take_add_one, HY.out] at hx; rcases List.mem_append.1 hx with hx | hx; exact HI.out x hx hp; simp at hx; subst hx; unfold isP at hp; rw [← HSO.out] at hp; exact absurd (of_decide_eq_true hp) HN4.out), hid (by first | exact HB.out.trans (HB2.out.mono HB.out.size) | exact Below.drewN' (HB.out.trans (HB2.out.mono HB.out.size)) _)⟩
        case measure => first | omega | (simp [RowKit.intOf]; omega)
    · have hlti : ¬ ((k : Int) < m) := by omega
      have hkm : k = m := by omega
      have HE : Hid (ballB ls = true) := hid (ball_yes fun g hg x hx hp => by rw [HFF.out] at hg; obtain rfl := Option.some.inj hg; exact HI.out x (by rw [hkm, HN.out, List.take_length]; exact hx) hp)
      go_wp2_with fail
      go_ret
      exact ⟨ret_bool HE.out.symm, HB.out⟩
end Go.Proofs.YtplodoindppleaaGreat
