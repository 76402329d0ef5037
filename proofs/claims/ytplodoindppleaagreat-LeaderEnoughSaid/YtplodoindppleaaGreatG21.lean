import Derived.Test.YtplodoindppleaaGreatHPromZm
namespace Go.Proofs.YtplodoindppleaaGreat
set_option linter.unusedVariables false
open Go.RowKit
open Go.Lib (hid)
set_option maxHeartbeats 16000000 in
set_option maxRecDepth 100000 in
theorem cDecidedN {v : Value} {ls : List Ms} {w : World} (n : Int) (h : SlM w v (mgs ls)) (hA : ∀ m ∈ ls, m.at w) (hS : ∀ m ∈ ls, m.short 1024) (hl : ls.length ≤ 1000) (hfb : flagB ls = false) : Calls Tryz.prog 102 #[.int .i64 n, v] w fun e w' => FoundP (decF n ls) (fun m => (m.m.ft, m.m.fp)) e ∧ Below w.heap.size w w' := by
 have HSL0 := hid h
 have HSH := hid hS
 clear hS
 have HLL := hid hl
 obtain ⟨b, o, cap, a, rfl, ha, hc, hb⟩ := h
 have hlm : (mgs ls).length = ls.length := by unfold mgs; rw [List.length_map]
 rw [hlm] at ha hb ⊢
 have HA := hid hA
 have HCC := hid hc
 obtain ⟨m, hm⟩ : ∃ m, m = ls.length := ⟨_, rfl⟩
 rw [← hm] at ha hb hl ⊢
 have HN := hid hm
 clear hm hA hc hlm
 have HSL : Hid (SlM w (.slice a m cap) (mgs ls)) := hid (by have e : (mgs ls).length = m := (by unfold mgs; rw [List.length_map]; exact HN.out.symm); have hs := HSL0.out; rw [e] at hs; exact hs)
 clear HSL0
 have hm1 : m ≤ 1000 := by omega
 obtain ⟨fl, hfl⟩ : ∃ z, z = flagB ls := ⟨_, rfl⟩
 obtain rfl : fl = false := hfl.trans hfb
 clear hfb
 have HFL := hid hfl
 have HCF : Hid (∀ W, Below w.heap.size w W → Calls Tryz.prog 64 #[.slice a m cap, .func (.func 121) #[] #[]] W fun e w' => e = .returned (.bool false) ∧ Below W.heap.size W w') := hid (fun W hW => by rw [hfl]; exact cAnyFree (HSL.out.on hW) HLL.out)
 obtain ⟨nd, hnd⟩ : ∃ z, z = neI n (m : Int) := ⟨_, rfl⟩
 have HND := hid hnd
 have hNE := fun W => sNeed_any n (m : Int) W
 rw [← hnd] at hNE
 clear hfl hnd
 go_enter Tryz.func102, Tryz.ntmps102
 go_wp2_with (first | (go_at_call 64; refine (HCF.out _ ((Below.refl _ w).alloc (Nat.le_refl _) _)).mono ?_; rintro e w1 ⟨rfl, hB⟩; have HB1 := hid hB; clear hB) | (go_at_call 122; refine (hNE _).mono ?_; rintro e w' ⟨rfl, rfl⟩) | fail)
 have HBw1 : Hid (Below w.heap.size w w1) := hid (((Below.refl _ w).alloc (Nat.le_refl _) zeroVc).trans (HB1.out.mono (by simp)))
 have HR1 : Hid (RoomV w1 w.heap.size) := hid ((roomVZ w).on HB1.out)
 go_loopw [18] (fun i wr => ∃ k : Nat, k ≤ m ∧ i = .int .i64 k ∧ Hid (∀ x ∈ ls.take k, hasV n ls x = false) ∧ Hid (Below w1.heap.size w1 wr)) (fun i _ => m - (RowKit.intOf i).toNat)
 case atStart => exact ⟨0, Nat.zero_le _, rfl, hid (by simp), hid (Below.refl _ _)⟩
 case round =>
  obtain ⟨k, hk, rfl, HN0, HB0⟩ := hrel
  have HB : Hid (Below w.heap.size w wr) := hid (HBw1.out.trans (HB0.out.mono HBw1.out.size))
  have HR : Hid (RoomV wr w.heap.size) := hid (HR1.out.on HB0.out)
  by_cases hlt : k < m
  · have hlti : ((k : Int) < m) := by omega
    obtain rfl := ha (by omega)
    obtain ⟨y, hy⟩ : ∃ y, ls[k]? = some y := ⟨ls[k]'(by rw [← HN.out]; exact hlt), List.getElem?_eq_getElem (by rw [← HN.out]; exact hlt)⟩
    have hbw := hb (by omega)
    have HC : Hid (wr.rangeAt b (o + k * 20) y.m.list) := hid ((HCC.out.on HB.out fun _ => hbw) k y.m (at_mgs hy))
    have HY := hid hy
    have HYA := hid ((HA.out y (List.mem_of_getElem? hy)).on HB.out)
    clear hy hbw
    obtain ⟨vb, hvb⟩ : ∃ z, z = validB y.m.ft := ⟨_, rfl⟩
    have hV := fun W => cValid y.m.ft W
    rw [← hvb] at hV
    obtain ⟨vn, hvn⟩ : ∃ z, z = votesF ls y := ⟨_, rfl⟩
    have hv1 : vn ≤ 1000 := by have : votesF ls y ≤ ls.length := List.countP_le_length; have := HN.out; omega
    have HHV : Hid (hasV n ls y = (vb && decide (nd ≤ (vn : Int)))) := hid (by unfold hasV; rw [hvb, hvn, HND.out, HN.out])
    have HHM : Hid (∀ W, Below wr.heap.size wr W → Calls Tryz.prog 123 #[.slice (some ⟨b, o, none⟩) m cap, .agg #[.int .i64 y.m.ft, .slice y.m.fp.a y.m.fp.n y.m.fp.c]] W fun e w' => e = .returned (.int .i64 (vn : Int)) ∧ Below W.heap.size W w') := hid (fun W hW => by rw [hvn]; exact cHowMany ((HSL.out.on HB.out).on hW) (fun x hx => ((HA.out x hx).on HB.out).on hW) HSH.out HLL.out (HYA.out.on hW) (HSH.out y (List.mem_of_getElem? HY.out)))
    clear hvb hvn
    rcases vb with _ | _
    · have HE := hid (rfl : (0:Nat) = 0)
      go_wp2_with (first
       | ((with_reducible refine loadMl (x := ?lx1) (b := ?lb1) (o := ?lo1) y.m ?lg1 ?lp1 ?lxx1 ?lc1 ?_); (case lg1 => rfl); (case lp1 => rfl); (case lxx1 => rfl); (case lc1 => exact HC.out))
       | ((with_reducible refine storeM (x := ?sx2) (y := ?sy2) (b := wr.heap.size) y.m ?sg2 ?so2 ?sxx2 ?syy2 ?sc2 ?sh2); (case sg2 => rfl); (case so2 => rfl); (case sxx2 => rfl); (case syy2 => rfl); (case sc2 => exact roomZ wr); intro W1 hO hU; have HO1 := hid hO; have HB2 : Hid (Below wr.heap.size wr W1) := hid ((laid1_b wr zeroMc).trans (hU.below wr.heap.size (Nat.le_refl _))); have c0 : W1.cell? ⟨wr.heap.size, 18, none⟩ = some (.int .i64 y.m.ft) := HO1.out.cell (m := y.m) (j := 18) rfl; have c1 : W1.cell? ⟨wr.heap.size, 19, none⟩ = some (.slice y.m.fp.a y.m.fp.n y.m.fp.c) := HO1.out.cell (m := y.m) (j := 19) rfl; have HR2 := hid (HR.out.on HB2.out); clear hO hU)
       | (go_at_call 92; refine (hV _).mono ?_; rintro e w' ⟨rfl, rfl⟩)
       | fail)
      go_roundw
      case rel => exact ⟨k + 1, by omega, by go_num, hid (no_next HY.out HN0.out (by rw [HHV.out]; rfl)), hid (HB0.out.trans (HB2.out.mono HB0.out.size))⟩
      case measure => first | omega | (simp [RowKit.intOf]; omega)
    · by_cases hge : nd ≤ (vn : Int)
      · have hg : nd ≤ (vn : Int) := hge
        have HP : Hid (hasV n ls y = true) := hid (by rw [HHV.out]; simp [hge])
        have HGE := hid hge
        clear hge
        go_wp2_with (first
         | ((with_reducible refine loadMl (x := ?lx3) (b := ?lb3) (o := ?lo3) y.m ?lg3 ?lp3 ?lxx3 ?lc3 ?_); (case lg3 => rfl); (case lp3 => rfl); (case lxx3 => rfl); (case lc3 => exact HC.out))
         | ((with_reducible refine storeM (x := ?sx4) (y := ?sy4) (b := wr.heap.size) y.m ?sg4 ?so4 ?sxx4 ?syy4 ?sc4 ?sh4); (case sg4 => rfl); (case so4 => rfl); (case sxx4 => rfl); (case syy4 => rfl); (case sc4 => exact roomZ wr); intro W1 hO hU; have HO1 := hid hO; have HB2 : Hid (Below wr.heap.size wr W1) := hid ((laid1_b wr zeroMc).trans (hU.below wr.heap.size (Nat.le_refl _))); have c0 : W1.cell? ⟨wr.heap.size, 18, none⟩ = some (.int .i64 y.m.ft) := HO1.out.cell (m := y.m) (j := 18) rfl; have c1 : W1.cell? ⟨wr.heap.size, 19, none⟩ = some (.slice y.m.fp.a y.m.fp.n y.m.fp.c) := HO1.out.cell (m := y.m) (j := 19) rfl; have HR2 := hid (HR.out.on HB2.out); clear hO hU)
         | (go_at_call 92; refine (hV _).mono ?_; rintro e w' ⟨rfl, rfl⟩)
         | (go_at_call 123; refine (HHM.out _ HB2.out).mono ?_; rintro e w3 ⟨rfl, hB⟩; have HB3 := hid hB; have HO3 := hid (heapB HO1.out hB (Array.getElem?_eq_some_iff.1 HO1.out).1 : OM w3 wr.heap.size y.m); have HR3 := hid (HR2.out.on hB); clear hB)
         | ((with_reducible refine loadVl (x := ?vx5) (b := wr.heap.size) (o := 18) y.m.ft y.m.fp ?vg5 ?vo5 ?vxx5 ?vc5 ?_); (case vg5 => rfl); (case vo5 => rfl); (case vxx5 => rfl); (case vc5 => exact OM.fV (m := y.m) HO3.out))
         | ((with_reducible refine storeV (x := ?wx6) (y := ?wy6) (b := w.heap.size) y.m.ft y.m.fp ?wg6 ?wo6 ?wxx6 ?wyy6 ?wc6 ?wh6); (case wg6 => rfl); (case wo6 => rfl); (case wxx6 => rfl); (case wyy6 => rfl); (case wc6 => exact HR3.out); intro W4 hO hU; have HO4 := hid hO; have HB4 : Hid (Below w.heap.size w3 W4) := hid (hU.below w.heap.size (Nat.le_refl _)); clear hO hU)
         | fail)
        refine bodyPost_ret (ret_cell_tmp rfl rfl rfl HO4.out.range Tryz.underlying34 rfl (infoVl _ _)) rfl ⟨.hit y (by unfold decF; rw [if_neg (by rw [← HFL.out]; decide)]; exact find_hit HY.out HN0.out HP.out), ?_⟩
        exact ((HB.out.trans (HB2.out.mono HB.out.size)).trans (HB3.out.mono (Nat.le_trans HB.out.size HB2.out.size))).trans HB4.out
      · have hg : ¬ nd ≤ (vn : Int) := hge
        have HE := hid hge
        clear hge
        go_wp2_with (first
         | ((with_reducible refine loadMl (x := ?lx7) (b := ?lb7) (o := ?lo7) y.m ?lg7 ?lp7 ?lxx7 ?lc7 ?_); (case lg7 => rfl); (case lp7 => rfl); (case lxx7 => rfl); (case lc7 => exact HC.out))
         | ((with_reducible refine storeM (x := ?sx8) (y := ?sy8) (b := wr.heap.size) y.m ?sg8 ?so8 ?sxx8 ?syy8 ?sc8 ?sh8); (case sg8 => rfl); (case so8 => rfl); (case sxx8 => rfl); (case syy8 => rfl); (case sc8 => exact roomZ wr); intro W1 hO hU; have HO1 := hid hO; have HB2 : Hid (Below wr.heap.size wr W1) := hid ((laid1_b wr zeroMc).trans (hU.below wr.heap.size (Nat.le_refl _))); have c0 : W1.cell? ⟨wr.heap.size, 18, none⟩ = some (.int .i64 y.m.ft) := HO1.out.cell (m := y.m) (j := 18) rfl; have c1 : W1.cell? ⟨wr.heap.size, 19, none⟩ = some (.slice y.m.fp.a y.m.fp.n y.m.fp.c) := HO1.out.cell (m := y.m) (j := 19) rfl; have HR2 := hid (HR.out.on HB2.out); clear hO hU)
         | (go_at_call 92; refine (hV _).mono ?_; rintro e w' ⟨rfl, rfl⟩)
         | (go_at_call 123; refine (HHM.out _ HB2.out).mono ?_; rintro e w3 ⟨rfl, hB⟩; have HB3 := hid hB; have HO3 := hid (heapB HO1.out hB (Array.getElem?_eq_some_iff.1 HO1.out).1 : OM w3 wr.heap.size y.m); have HR3 := hid (HR2.out.on hB); clear hB)
         | fail)
        go_roundw
        case rel => exact ⟨k + 1, by omega, by go_num, hid (no_next HY.out HN0.out (by rw [HHV.out]; simp [HE.out])), hid ((HB0.out.trans (HB2.out.mono HB0.out.size)).trans (HB3.out.mono (Nat.le_trans HB0.out.size HB2.out.size)))⟩
        case measure => first | omega | (simp [RowKit.intOf]; omega)
  · have hlti : ¬ ((k : Int) < m) := by omega
    have HE : Hid (k = m) := hid (by omega)
    go_wp2_with (first
     | ((with_reducible refine storeV (x := ?wx9) (y := ?wy9) (b := w.heap.size) 0 zS ?wg9 ?wo9 ?wxx9 ?wyy9 ?wc9 ?wh9); (case wg9 => rfl); (case wo9 => rfl); (case wxx9 => rfl); (case wyy9 => rfl); (case wc9 => exact HR.out); intro W2 hO hU; have HO2 := hid hO; have HB2 : Hid (Below w.heap.size wr W2) := hid (hU.below w.heap.size (Nat.le_refl _)); clear hO hU)
     | fail)
    refine bodyPost_ret (ret_cell_tmp rfl rfl rfl HO2.out.range Tryz.underlying34 rfl (infoVl _ _)) rfl ⟨.miss (by unfold decF; rw [if_neg (by rw [← HFL.out]; decide)]; exact find_miss fun x hx => HN0.out x (by rw [HE.out, HN.out, List.take_length]; exact hx)), ?_⟩
    exact HB.out.trans HB2.out
set_option maxHeartbeats 16000000 in
set_option maxRecDepth 100000 in
theorem cDecidedY {v : Value} {ls : List Ms} {w : World} (n : Int) (h : SlM w v (mgs ls)) (hA : ∀ m ∈ ls, m.at w) (hS : ∀ m ∈ ls, m.short 1024) (hl : ls.length ≤ 1000) (hfb : flagB ls = true) : Calls Tryz.prog 102 #[.int .i64 n, v] w fun e w' => FoundP (decF n ls) (fun m => (m.m.ft, m.m.fp)) e ∧ Below w.heap.size w w' := by
 have HSL0 := hid h
 have HSH := hid hS
 clear hS
 have HLL := hid hl
 obtain ⟨b, o, cap, a, rfl, ha, hc, hb⟩ := h
 have hlm : (mgs ls).length = ls.length := by unfold mgs; rw [List.length_map]
 rw [hlm] at ha hb ⊢
 have HA := hid hA
 have HCC := hid hc
 obtain ⟨m, hm⟩ : ∃ m, m = ls.length := ⟨_, rfl⟩
 rw [← hm] at ha hb hl ⊢
 have HN := hid hm
 clear hm hA hc hlm
 have HSL : Hid (SlM w (.slice a m cap) (mgs ls)) := hid (by have e : (mgs ls).length = m := (by unfold mgs; rw [List.length_map]; exact HN.out.symm); have hs := HSL0.out; rw [e] at hs; exact hs)
 clear HSL0
 have hm1 : m ≤ 1000 := by omega
 obtain ⟨fl, hfl⟩ : ∃ z, z = flagB ls := ⟨_, rfl⟩
 obtain rfl : fl = true := hfl.trans hfb
 clear hfb
 have HFL := hid hfl
 have HCF : Hid (∀ W, Below w.heap.size w W → Calls Tryz.prog 64 #[.slice a m cap, .func (.func 121) #[] #[]] W fun e w' => e = .returned (.bool true) ∧ Below W.heap.size W w') := hid (fun W hW => by rw [hfl]; exact cAnyFree (HSL.out.on hW) HLL.out)
 obtain ⟨nd, hnd⟩ : ∃ z, z = neI n (m : Int) := ⟨_, rfl⟩
 have HND := hid hnd
 have hNE := fun W => sNeed_any n (m : Int) W
 rw [← hnd] at hNE
 clear hfl hnd
 go_enter Tryz.func102, Tryz.ntmps102
 go_wp2_with (first | (go_at_call 64; refine (HCF.out _ ((Below.refl _ w).alloc (Nat.le_refl _) _)).mono ?_; rintro e w1 ⟨rfl, hB⟩; have HB1 := hid hB; clear hB) | ((with_reducible refine storeV (x := ?wx11) (y := ?wy11) (b := w.heap.size) 0 zS ?wg11 ?wo11 ?wxx11 ?wyy11 ?wc11 ?wh11); (case wg11 => rfl); (case wo11 => rfl); (case wxx11 => rfl); (case wyy11 => rfl); (case wc11 => exact ((roomVZ w).on HB1.out)); intro W2 hO hU; have HO2 := hid hO; have HB2 : Hid (Below w.heap.size w1 W2) := hid (hU.below w.heap.size (Nat.le_refl _)); clear hO hU) | fail)
 refine bodyPost_ret (ret_cell_tmp rfl rfl rfl HO2.out.range Tryz.underlying34 rfl (infoVl _ _)) rfl ⟨.miss (by unfold decF; rw [if_pos HFL.out.symm]), ?_⟩
 exact (((Below.refl _ w).alloc (Nat.le_refl _) zeroVc).trans (HB1.out.mono (by simp))).trans HB2.out
theorem cDecided {v : Value} {ls : List Ms} {w : World} (n : Int) (h : SlM w v (mgs ls)) (hA : ∀ m ∈ ls, m.at w) (hS : ∀ m ∈ ls, m.short 1024) (hl : ls.length ≤ 1000) : Calls Tryz.prog 102 #[.int .i64 n, v] w fun e w' => FoundP (decF n ls) (fun m => (m.m.ft, m.m.fp)) e ∧ Below w.heap.size w w' := by
 rcases hf : flagB ls with _ | _
 · exact cDecidedN n h hA hS hl hf
 · exact cDecidedY n h hA hS hl hf
end Go.Proofs.YtplodoindppleaaGreat
namespace Go.Proofs.YtplodoindppleaaGreat
set_option linter.unusedVariables false
open Go.RowKit
open Go.Lib (hid)
def svl (p : Sv) : List Value := [.slice p.a p.n p.c]
theorem kSv (p : Sv) : (svl p).length = 1 := rfl
theorem oneSv (p : Sv) : ∀ u ∈ svl p, u.oneCell' = true := fun u hu => by unfold svl at hu; simp at hu; subst hu; rfl
abbrev SlP (w : World) (v : Value) (ps : List Sv) : Prop := SlG svl 1 w v ps
abbrev OwnP (w : World) (B : Nat) (v : Value) (ps : List Sv) : Prop := OwnG svl 1 32 w B v ps
theorem Tryz.infoSv : (Tryz.prog.info? 32).map (fun i => (i.zero, i.size, i.bytes)) = some (some (.slice none 0 0), 1, 24) := by kernel_rfl
theorem wpList_append_sv {w : World} {ops : Array Oper} {rest : List Oper} {o : Oper} {a : Act} {Q : Exit → Act → World → Prop} (hgd : o.guard = none) (s x : Operand) (ho : o.op = .call { callee := .builtin .append, args := #[s, x], argTypes := #[129, 129] })
 (B : Nat) (v : Value) (ps : List Sv) (hs : a.eval s = v) (hown : OwnG svl 1 32 w B v ps) (v2 : Value) (qs : List Sv) (hx : a.eval x = v2) (h2 : SlG svl 1 w v2 qs) (hn2 : qs = [] → v2 = .slice none 0 0 ∨ ∃ ad c, v2 = .slice (some ad) 0 c) (hlen : ps.length + qs.length ≤ 1000000) (hbase : B ≤ w.heap.size)
 (h : ∀ v' w', OwnG svl 1 32 w' B v' (ps ++ qs) → w.grownBy w' v.ownBlock → wpList Tryz.prog ops Q rest (a.put o.dst v') w') : wpList Tryz.prog ops Q (o :: rest) a w := by
 obtain ⟨i0, hi, hz0, hz1, hz2⟩ := info_parts Tryz.infoSv
 obtain ⟨b, off, cap, a2, e, ha, hc, hl⟩ := h2
 have hcase : (v2 = .slice none 0 0 ∧ qs = []) ∨ ∃ ad, v2 = .slice (some ad) qs.length cap ∧ (0 < qs.length → ad = ⟨b, off, none⟩) := by
  rcases Nat.eq_zero_or_pos qs.length with h0 | h0
  · have hq : qs = [] := List.length_eq_zero_iff.1 h0
    rcases hn2 hq with h1 | ⟨ad, c, h1⟩
    · exact .inl ⟨h1, hq⟩
    · rw [e] at h1
      injection h1 with e1 e2 e3
      exact .inr ⟨ad, by rw [e, e1], fun h3 => by omega⟩
  · exact .inr ⟨⟨b, off, none⟩, by rw [e, ha h0], fun _ => rfl⟩
 rcases hcase with ⟨rfl, rfl⟩ | ⟨ad, rfl, had⟩
 · refine wpList_append_own_none hgd s x 129 ho B 32 i0 1 Tryz.underlying129 hi v ps.length (flatG svl ps) hs hown hx ?_
   exact h v w (by rw [List.append_nil]; exact hown) (grownRefl _ _)
 · refine wpList_append_own _ hgd s x 129 ho B 32 i0 _ 1 24 Tryz.underlying129 hi hz0 hz1 hz2 rfl (by decide) v ps.length (flatG svl ps) hs hown ad qs.length cap (flatG svl qs) hx (flatG_len kSv qs) (fun j u hu => ?_) (flatG_all oneSv qs) (by unfold maxLen; omega) (by omega) hbase ?_
   · have hj := (List.getElem?_eq_some_iff.1 hu).1
     rw [flatG_len kSv] at hj
     have h0 : 0 < qs.length := by rcases Nat.eq_zero_or_pos qs.length with h0 | h0; rw [h0] at hj; omega; exact h0
     rw [had h0, addr_add']
     have hlt : j / 1 < qs.length := Nat.div_lt_of_lt_mul (by rw [Nat.mul_comm]; exact hj)
     have hat := hc (j / 1) qs[j / 1] (List.getElem?_eq_getElem hlt)
     have hfl : ∀ u', (svl qs[j / 1])[j % 1]? = some u' → (flatG svl qs)[j / 1 * 1 + j % 1]? = some u' := fun u' h' => flatG_at kSv qs _ _ (List.getElem?_eq_getElem hlt) _ _ h'
     have hm : j % 1 < (svl qs[j / 1]).length := by rw [kSv]; exact Nat.mod_lt _ (by decide)
     have h1 := hfl _ (List.getElem?_eq_getElem hm)
     rw [show j / 1 * 1 + j % 1 = j by omega, hu] at h1
     have h2 := hat (j % 1) _ (List.getElem?_eq_getElem hm)
     rw [← Option.some.inj h1] at h2
     rw [show off + j / 1 * 1 + j % 1 = off + j by omega] at h2
     exact h2
   · intro v' w' ho' hg _
     refine h v' w' ?_ hg
     show World.ownsRow _ _ _ _ _ _ _
     rw [flatG_append, List.length_append]; exact ho'
abbrev vps (ls : List Ms) : List Sv := ls.map fun m => m.m.vp
theorem at_vps {ls : List Ms} {k : Nat} {y : Ms} (h : ls[k]? = some y) : (vps ls)[k]? = some y.m.vp := by unfold vps; rw [List.getElem?_map, h]; rfl
set_option maxHeartbeats 8000000 in
set_option maxRecDepth 100000 in
theorem cUnionM {v : Value} {ls : List Ms} {w : World} (h : SlP w v (vps ls)) (hA : ∀ m ∈ ls, Sl w m.m.vp.v m.v) (hS : ∀ m ∈ ls, m.v.length ≤ 1024) (hl : ls.length ≤ 40) : Calls Tryz.prog 114 #[v] w fun e w' => ∃ r, e = .returned (slE r (ofE2 (setsF ls))) ∧ Own w' w.heap.size r (ofL2 (setsF ls)) ∧ Below w.heap.size w w' := by
 have HSH := hid hS
 clear hS
 have HLL := hid hl
 obtain ⟨b, o, cap, a, rfl, ha, hc, hb⟩ := h
 have hlm : (vps ls).length = ls.length := by unfold vps; rw [List.length_map]
 rw [hlm] at ha hb ⊢
 have HA := hid hA
 have HCC := hid hc
 obtain ⟨m, hm⟩ : ∃ m, m = ls.length := ⟨_, rfl⟩
 rw [← hm] at ha hb hl ⊢
 have HN := hid hm
 clear hm hA hc hlm
 go_enter Tryz.func114, Tryz.ntmps114
 go_wp2_with fail
 go_loopw [4, 9] (fun u i wr => ∃ (k : Nat) (out : List C7), k ≤ m ∧ i = .int .i64 k ∧ Hid (out = setsF (ls.take k)) ∧ Own wr w.heap.size u out ∧ Below w.heap.size w wr) (fun _ i _ => m - (RowKit.intOf i).toNat)
 case atStart => exact ⟨0, [], Nat.zero_le _, rfl, hid rfl, Own.nil _ _, Below.refl _ _⟩
 case round =>
  obtain ⟨k, out, hk, rfl, HO0, hown, hB⟩ := hrel
  have hsz := hB.size
  have HO := hid (And.intro hown hB)
  have HOL : Hid (out.length ≤ 40960) := hid (by rw [HO0.out]; refine Nat.le_trans (sets_len (n := 1024) (fun x hx => HSH.out x (List.mem_of_mem_take hx))) ?_; have := HLL.out; have h2 : (ls.take k).length ≤ 40 := Nat.le_trans (List.length_take_le _ _) (by omega); exact Nat.mul_le_mul_right 1024 h2)
  obtain ⟨gu, capu, nu, rfl, hnu⟩ := hown.asSlice
  clear hown hnu hB
  by_cases hlt : k < m
  · have hlti : ((k : Int) < m) := by omega
    obtain rfl := ha (by omega)
    obtain ⟨y, hy⟩ : ∃ y, ls[k]? = some y := ⟨ls[k]'(by rw [← HN.out]; exact hlt), List.getElem?_eq_getElem (by rw [← HN.out]; exact hlt)⟩
    have hbw := hb (by omega)
    have c0 : wr.cell? ⟨b, o + k, none⟩ = some (.slice y.m.vp.a y.m.vp.n y.m.vp.c) := (HO.out.2.cell hbw).trans (by have := HCC.out k _ (at_vps hy) 0 _ rfl; rwa [Nat.mul_one, Nat.add_zero] at this)
    have HSA : Hid (Sl wr (.slice y.m.vp.a y.m.vp.n y.m.vp.c) y.v) := hid ((HA.out y (List.mem_of_getElem? hy)).on HO.out.2)
    have HY := hid hy
    have hol : out.length + y.v.length ≤ 1000000 := by have := HOL.out; have := HSH.out y (List.mem_of_getElem? HY.out); omega
    clear hy hbw
    go_wp2_with (at_builtin; refine append_sl rfl _ _ rfl (xs := out) rfl rfl HO.out.1 rfl HSA.out hol hsz ?_; intro v1 w1 hown1 hgrow1)
    have R := hid (And.intro hown1 (HO.out.2.grown hgrow1 hsz (fun k hk => (HO.out.1.lt k hk).1)))
    clear hown1 hgrow1
    go_wp2
    go_roundw
    case rel => exact ⟨k + 1, _, by omega, by go_num, hid (by rw [sets_next HY.out, ← HO0.out]), R.out.1, R.out.2⟩
    case measure => first | omega | (simp [RowKit.intOf]; omega)
  · have hlti : ¬ ((k : Int) < m) := by omega
    have hol : out.length ≤ 50000 := by have := HOL.out; omega
    have hO := cOf2 HO.out.1.sl hol
    rw [show out = setsF ls from by rw [HO0.out, show k = m by omega, HN.out, List.take_length]] at hO
    go_wp2_with (go_at_call 131; refine hO.mono ?_; rintro e w3 ⟨r, rfl, hown3, hB3⟩)
    go_ret2
    exact ⟨r, rfl, own_mono hown3 hsz, HO.out.2.trans (hB3.mono hsz)⟩
end Go.Proofs.YtplodoindppleaaGreat
