import Derived.Test.YtplodoindppleaaGreatG21
import Derived.Test.YtplodoindppleaaGreatG18
namespace Go.Proofs.YtplodoindppleaaGreat
set_option linter.unusedVariables false
open Go.RowKit
open Go.Lib (hid)
theorem SlP.one {w : World} {q : Nat} {p : Sv} {T : TypeId} (h : w.heap[q]? = some (.cells #[.slice p.a p.n p.c] T (0, 0))) (cap : Nat) : SlP w (.slice (some ⟨q, 0, none⟩) 1 cap) [p] := ⟨q, 0, cap, _, rfl, fun _ => rfl, fun j y hy => by
 rcases j with _ | j
 · rw [List.getElem?_cons_zero] at hy
   obtain rfl := Option.some.inj hy
   intro i u hu
   rw [cellAt' h]
   rcases i with _ | i
   · exact hu
   · simp [svl] at hu
 · simp at hy, fun _ => (Array.getElem?_eq_some_iff.1 h).1⟩
def FreshP (w : World) (ls : List Ms) (e : Ending) (w' : World) : Prop := ∃ r : Sv, e = .returned (.tuple #[.agg (varr (freshT ls) r), .int .i64 (freshE ls)]) ∧ Sl w' r.v (freshL ls) ∧ Below w.heap.size w w'
theorem FreshP.bad {w w' : World} {ls : List Ms} {x : Int} (he : freshE ls = x) (h0 : x ≠ 0) (hb : Below w.heap.size w w') : FreshP w ls (.returned (.tuple #[.agg (varr 0 zS), .int .i64 x])) w' := by
 refine ⟨zS, ?_, ?_, hb⟩
 · unfold freshT; rw [he, if_neg h0]
 · unfold freshL; rw [he, if_neg h0]; exact (Own.nil w' 0).sl
def FreshD (w : World) (ls : List Ms) (e : Ending) (w' : World) : Prop := ∃ r : Sv, e = .returned (.tuple #[.agg (varr (freshT ls) r), .int .i64 (freshE ls)]) ∧ SetD w' r.v (freshL ls) ∧ Below w.heap.size w w'
theorem FreshD.bad {w w' : World} {ls : List Ms} {x : Int} (he : freshE ls = x) (h0 : x ≠ 0) (hb : Below w.heap.size w w') : FreshD w ls (.returned (.tuple #[.agg (varr 0 zS), .int .i64 x])) w' := by
 refine ⟨zS, ?_, ?_, hb⟩
 · unfold freshT; rw [he, if_neg h0]
 · unfold freshL; rw [he, if_neg h0]; exact SetD.nil w'
set_option maxHeartbeats 16000000 in
set_option maxRecDepth 100000 in
theorem cFresh {v : Value} {ls : List Ms} {w : World} (h : SlM w v (mgs ls)) (hA : ∀ m ∈ ls, m.at w) (hS : ∀ m ∈ ls, m.short 1024) (hl : ls.length ≤ 40) : Calls Tryz.prog 87 #[v] w (FreshD w ls) := by
 have HSH := hid hS
 clear hS
 have HLL := hid hl
 obtain ⟨b, o, cap, a, rfl, ha, hc, hb⟩ := h
 have hlm : (mgs ls).length = ls.length := by unfold mgs; rw [List.length_map]
 rw [hlm] at ha hb ⊢
 have HA := hid hA
 have HCC := hid hc
 obtain ⟨m, hm⟩ : ∃ m, m = ls.length := ⟨_, rfl⟩
 rw [← hm] at ha hb hl ⊢
 have HN := hid hm
 clear hm hA hc hlm
 go_enter Tryz.func87, Tryz.ntmps87
 go_wp2_with fail
 go_loopw [4, 5, 12] (fun s4 s5 i wr => ∃ (k : Nat) (t : Int) (g : Option Addr) (gn gc : Nat), k ≤ m ∧ i = .int .i64 k ∧ s4 = .int .i64 t ∧ s5 = .slice g gn gc ∧ Hid (t = maxS (ls.take k)) ∧ Hid (∀ x ∈ ls.take k, rightM x = true) ∧ Hid (Below (w.alloc zeroVc).heap.size (w.alloc zeroVc) wr) ∧ Hid (OwnP wr (w.alloc zeroVc).heap.size (.slice g gn gc) (vps (ls.take k)))) (fun _ _ i _ => m - (RowKit.intOf i).toNat)
 case atStart => exact ⟨0, 0, none, 0, 0, Nat.zero_le _, rfl, rfl, rfl, hid rfl, hid (by simp), hid (Below.refl _ _), hid (OwnG.nil _ _ _ _ _)⟩
 case round =>
  obtain ⟨k, t, g, gn, gc, hk, rfl, rfl, rfl, HT, HAR, HB0, HO⟩ := hrel
  have HB : Hid (Below w.heap.size w wr) := hid (((Below.refl _ w).alloc (Nat.le_refl _) zeroVc).trans (HB0.out.mono (by simp)))
  have HR : Hid (RoomV wr w.heap.size) := hid ((roomVZ w).on HB0.out)
  by_cases hlt : k < m
  · have hlti : ((k : Int) < m) := by omega
    obtain rfl := ha (by omega)
    obtain ⟨y, hy⟩ : ∃ y, ls[k]? = some y := ⟨ls[k]'(by rw [← HN.out]; exact hlt), List.getElem?_eq_getElem (by rw [← HN.out]; exact hlt)⟩
    have hbw := hb (by omega)
    have HC : Hid (wr.rangeAt b (o + k * 20) y.m.list) := hid ((HCC.out.on HB.out fun _ => hbw) k y.m (at_mgs hy))
    have HY := hid hy
    have HYA := hid ((HA.out y (List.mem_of_getElem? hy)).on HB.out)
    clear hy hbw
    have HYS := hid (HSH.out y (List.mem_of_getElem? HY.out))
    obtain ⟨rb, hrb⟩ : ∃ z, z = rightM y := ⟨_, rfl⟩
    have HRB := hid hrb
    have HCR : Hid (∀ W, Below wr.heap.size wr W → Calls Tryz.prog 28 #[.agg y.m.arr] W fun e w' => e = .returned (.bool rb) ∧ Below W.heap.size W w') := hid (fun W hW => by rw [hrb]; exact cRightM (HYA.out.on hW) HYS.out)
    clear hrb
    obtain ⟨ys, hys⟩ : ∃ z, z = y.m.s := ⟨_, rfl⟩
    have HYSS := hid hys
    clear hys
    rcases rb with _ | _
    · go_wp2_with (first
       | ((with_reducible refine loadMl (x := ?lx1) (b := ?lb1) (o := ?lo1) y.m ?lg1 ?lp1 ?lxx1 ?lc1 ?_); (case lg1 => rfl); (case lp1 => rfl); (case lxx1 => rfl); (case lc1 => exact HC.out))
       | ((with_reducible refine storeM (x := ?sx2) (y := ?sy2) (b := wr.heap.size) y.m ?sg2 ?so2 ?sxx2 ?syy2 ?sc2 ?sh2); (case sg2 => rfl); (case so2 => rfl); (case sxx2 => rfl); (case syy2 => rfl); (case sc2 => exact roomZ wr); intro W1 hO hU; have HO1 : Hid (OM W1 wr.heap.size y.m) := hid hO; have HB1 : Hid (Below wr.heap.size wr W1) := hid ((laid1_b wr zeroMc).trans (hU.below wr.heap.size (Nat.le_refl _))); have HR1 := hid (HR.out.on HB1.out); clear hO hU)
       | ((with_reducible refine loadM (x := ?lx3) (b := wr.heap.size) y.m ?lg3 ?lo3 ?lxx3 ?lc3 ?lh3); (case lg3 => rfl); (case lo3 => rfl); (case lxx3 => rfl); (case lc3 => exact HO1.out))
       | (go_at_call 28; refine (HCR.out _ HB1.out).mono ?_; rintro e w2 ⟨rfl, hB⟩; have HB2 := hid hB; have HR2 := hid (HR1.out.on hB); have HO2 : Hid (OM w2 wr.heap.size y.m) := hid (heapB HO1.out hB (Array.getElem?_eq_some_iff.1 HO1.out).1); clear hB)
       | ((with_reducible refine storeV (x := ?wx4) (y := ?wy4) (b := w.heap.size) 0 zS ?wg4 ?wo4 ?wxx4 ?wyy4 ?wc4 ?wh4); (case wg4 => rfl); (case wo4 => rfl); (case wxx4 => rfl); (case wyy4 => rfl); (case wc4 => exact HR2.out); intro W3 hO hU; have HO3 : Hid (OV W3 w.heap.size 0 zS) := hid hO; have HB3 : Hid (Below w.heap.size w2 W3) := hid (hU.below w.heap.size (Nat.le_refl _)); clear hO hU)
       | fail)
      refine bodyPost_ret (ret_cell_tmp rfl rfl rfl HO3.out.range Tryz.underlying34 rfl (infoVl _ _)) rfl (FreshD.bad (x := 1) ?_ (by decide) ?_)
      · unfold freshE; rw [if_neg]; unfold allRight; rw [List.all_eq_true]; intro hh; have := hh y (List.mem_of_getElem? HY.out); rw [← HRB.out] at this; cases this
      · exact ((HB.out.trans (HB1.out.mono HB.out.size)).trans (HB2.out.mono (Nat.le_trans HB.out.size HB1.out.size))).trans HB3.out
    · go_upto_region 9 with (first
       | ((with_reducible refine loadMl (x := ?lx5) (b := ?lb5) (o := ?lo5) y.m ?lg5 ?lp5 ?lxx5 ?lc5 ?_); (case lg5 => rfl); (case lp5 => rfl); (case lxx5 => rfl); (case lc5 => exact HC.out))
       | ((with_reducible refine storeM (x := ?sx6) (y := ?sy6) (b := wr.heap.size) y.m ?sg6 ?so6 ?sxx6 ?syy6 ?sc6 ?sh6); (case sg6 => rfl); (case so6 => rfl); (case sxx6 => rfl); (case syy6 => rfl); (case sc6 => exact roomZ wr); intro W1 hO hU; have HO1 : Hid (OM W1 wr.heap.size y.m) := hid hO; have HB1 : Hid (Below wr.heap.size wr W1) := hid ((laid1_b wr zeroMc).trans (hU.below wr.heap.size (Nat.le_refl _))); have HR1 := hid (HR.out.on HB1.out); clear hO hU)
       | ((with_reducible refine loadM (x := ?lx7) (b := wr.heap.size) y.m ?lg7 ?lo7 ?lxx7 ?lc7 ?lh7); (case lg7 => rfl); (case lo7 => rfl); (case lxx7 => rfl); (case lc7 => exact HO1.out))
       | (go_at_call 28; refine (HCR.out _ HB1.out).mono ?_; rintro e w2 ⟨rfl, hB⟩; have HB2 := hid hB; have HR2 := hid (HR1.out.on hB); have HO2 : Hid (OM w2 wr.heap.size y.m) := hid (heapB HO1.out hB (Array.getElem?_eq_some_iff.1 HO1.out).1); clear hB; have c0 : w2.cell? ⟨wr.heap.size, 14, none⟩ = some (.int .i64 ys) := (by rw [HYSS.out]; exact OM.cell (m := y.m) (j := 14) HO2.out rfl); have c1 : w2.cell? ⟨wr.heap.size, 12, none⟩ = some (.slice y.m.vp.a y.m.vp.n y.m.vp.c) := OM.cell (m := y.m) (j := 12) HO2.out rfl)
       | fail)
      have HO2P : Hid (OwnP w2 (w.alloc zeroVc).heap.size (.slice g gn gc) (vps (ls.take k))) := hid (OwnG.on (OwnG.on HO.out HB1.out) HB2.out)
      have HBW2 : Hid (Below (w.alloc zeroVc).heap.size (w.alloc zeroVc) w2) := hid ((HB0.out.trans (HB1.out.mono HB0.out.size)).trans (HB2.out.mono (Nat.le_trans HB0.out.size HB1.out.size)))
      obtain ⟨W4, hW4⟩ : ∃ z, z = w2.alloc (.cells #[.slice y.m.vp.a y.m.vp.n y.m.vp.c] 32) := ⟨_, rfl⟩
      have HX4 : Hid (W4.heap[w2.heap.size]? = some (.cells #[.slice y.m.vp.a y.m.vp.n y.m.vp.c] 32 (0, 0))) := hid (by rw [hW4]; exact heap_alloc_new w2 _)
      have HB4 : Hid (Below w2.heap.size w2 W4) := hid (by rw [hW4]; exact laid1_b w2 _)
      have HW4 := hid hW4
      clear hW4
      go_wp2_with (first | (at_builtin; rw [← HW4.out]; refine wpList_append_sv rfl _ _ rfl (w.alloc zeroVc).heap.size _ (vps (ls.take k)) rfl (OwnG.on HO2P.out HB4.out) _ [y.m.vp] rfl (SlP.one (p := y.m.vp) HX4.out 1) (fun h => absurd h (by simp)) (by have := HLL.out; have h2 : (vps (ls.take k)).length ≤ 40 := (by unfold vps; rw [List.length_map]; exact Nat.le_trans (List.length_take_le _ _) (by omega)); simp; omega) (Nat.le_trans HBW2.out.size HB4.out.size) ?_; intro v5 w5 ho5 hg5; obtain ⟨g5, c5, n5, rfl, hn5⟩ := OwnG.asSlice ho5; have HO5 := hid ho5; have HB5 := hid ((HBW2.out.trans (HB4.out.mono HBW2.out.size)).grown hg5 (Nat.le_trans HBW2.out.size HB4.out.size) (fun q hq => (HO2P.out.lt q hq).1)); clear ho5 hg5 hn5) | fail)
      go_roundw
      case rel => exact ⟨k + 1, max t ys, g5, n5, c5, by omega, by go_num, rfl, rfl, hid (by rw [maxS_next HY.out, ← HT.out, ← HYSS.out]; split <;> omega), hid (all_next HY.out HAR.out HRB.out.symm), HB5, hid (by have := HO5.out; rwa [show vps (ls.take k) ++ [y.m.vp] = vps (ls.take (k + 1)) by unfold vps; rw [List.take_add_one, HY.out]; simp] at this)⟩
      case measure => first | omega | (simp [RowKit.intOf]; omega)
  · have hlti : ¬ ((k : Int) < m) := by omega
    have HE : Hid (ls.take k = ls) := hid (by rw [show k = m by omega, HN.out, List.take_length])
    have HTT : Hid (maxS ls = t) := hid (by rw [HT.out, HE.out])
    have HAL : Hid (allRight ls = true) := hid (by unfold allRight; rw [List.all_eq_true]; intro x hx; exact HAR.out x (by rw [HE.out]; exact hx))
    obtain ⟨vb, hvb⟩ : ∃ z, z = validB t := ⟨_, rfl⟩
    have hV := fun W => cValid t W
    rw [← hvb] at hV
    have HVB := hid hvb
    have hU := cUnionM (show SlP wr (.slice g gn gc) (vps ls) by have := HO.out; rw [HE.out] at this; exact OwnG.slG kSv this) (fun x hx => ((HA.out x hx).on HB.out).1) (fun x hx => (HSH.out x hx).1) HLL.out
    clear hvb
    obtain ⟨e2, he2⟩ : ∃ z, z = ofE2 (setsF ls) := ⟨_, rfl⟩
    rw [← he2] at hU
    have HE2 := hid he2
    clear he2
    rcases vb with _ | _
    · clear hU
      go_wp2_with (first
       | (go_at_call 92; refine (hV _).mono ?_; rintro e w' ⟨rfl, rfl⟩)
       | ((with_reducible refine storeV (x := ?wx8) (y := ?wy8) (b := w.heap.size) 0 zS ?wg8 ?wo8 ?wxx8 ?wyy8 ?wc8 ?wh8); (case wg8 => rfl); (case wo8 => rfl); (case wxx8 => rfl); (case wyy8 => rfl); (case wc8 => exact HR.out); intro W3 hO hU; have HO3 : Hid (OV W3 w.heap.size 0 zS) := hid hO; have HB3 : Hid (Below w.heap.size wr W3) := hid (hU.below w.heap.size (Nat.le_refl _)); have HUP := hid hU; clear hO hU)
       | fail)
      refine bodyPost_ret (ret_cell_tmp rfl rfl rfl HO3.out.range Tryz.underlying34 rfl (infoVl _ _)) rfl (FreshD.bad (x := 1) ?_ (by decide) (HB.out.trans HB3.out))
      unfold freshE; rw [if_pos HAL.out, if_neg (by rw [HTT.out, ← HVB.out]; decide)]
    · have HFE : Hid (freshE ls = e2) := hid (by unfold freshE; rw [if_pos HAL.out, if_pos (by rw [HTT.out]; exact HVB.out.symm), HE2.out])
      by_cases hz : e2 = 0
      · have HZ := hid hz
        have hzb : (e2 != 0) = false := by simp [hz]
        clear hz
        go_wp2_with (first
         | (go_at_call 92; refine (hV _).mono ?_; rintro e w' ⟨rfl, rfl⟩)
         | (go_at_call 114; refine hU.mono ?_; rintro e w2 ⟨r, rfl, ho, hB⟩; obtain ⟨ra, rc, rn, rfl, hrn⟩ := Own.asSlice ho; have HOW := hid ho; have HB2 := hid hB; have HR2 := hid (HR.out.on hB); clear ho hB hrn)
         | ((with_reducible refine storeV (x := ?wx9) (y := ?wy9) (b := w.heap.size) t ⟨ra, rn, rc⟩ ?wg9 ?wo9 ?wxx9 ?wyy9 ?wc9 ?wh9); (case wg9 => rfl); (case wo9 => rfl); (case wxx9 => rfl); (case wyy9 => rfl); (case wc9 => exact HR2.out); intro W3 hO hU; have HO3 : Hid (OV W3 w.heap.size t ⟨ra, rn, rc⟩) := hid hO; have HB3 : Hid (Below w.heap.size w2 W3) := hid (hU.below w.heap.size (Nat.le_refl _)); have HUP := hid hU; clear hO hU)
         | fail)
        refine bodyPost_ret (ret_cell_tmp rfl rfl rfl HO3.out.range Tryz.underlying34 rfl (infoVl _ _)) rfl ⟨⟨ra, rn, rc⟩, ?_, ?_, ?_⟩
        · show Ending.returned (.tuple #[.agg (varr t ⟨ra, rn, rc⟩), .int .i64 0]) = _; unfold freshT; rw [HFE.out, HZ.out, if_pos rfl, HTT.out]
        · unfold freshL; rw [HFE.out, if_pos HZ.out]; exact (Own.setD HOW.out).updV HR2.out HUP.out
        · exact (HB.out.trans (HB2.out.mono HB.out.size)).trans HB3.out
      · have HZ := hid hz
        have hzb : (e2 != 0) = true := by simpa using hz
        clear hz
        go_wp2_with (first
         | (go_at_call 92; refine (hV _).mono ?_; rintro e w' ⟨rfl, rfl⟩)
         | (go_at_call 114; refine hU.mono ?_; rintro e w2 ⟨r, rfl, ho, hB⟩; obtain ⟨ra, rc, rn, rfl, hrn⟩ := Own.asSlice ho; have HOW := hid ho; have HB2 := hid hB; have HR2 := hid (HR.out.on hB); clear ho hB hrn)
         | ((with_reducible refine storeV (x := ?wx10) (y := ?wy10) (b := w.heap.size) 0 zS ?wg10 ?wo10 ?wxx10 ?wyy10 ?wc10 ?wh10); (case wg10 => rfl); (case wo10 => rfl); (case wxx10 => rfl); (case wyy10 => rfl); (case wc10 => exact HR2.out); intro W3 hO hU; have HO3 : Hid (OV W3 w.heap.size 0 zS) := hid hO; have HB3 : Hid (Below w.heap.size w2 W3) := hid (hU.below w.heap.size (Nat.le_refl _)); have HUP := hid hU; clear hO hU)
         | fail)
        refine bodyPost_ret (ret_cell_tmp rfl rfl rfl HO3.out.range Tryz.underlying34 rfl (infoVl _ _)) rfl (FreshD.bad (x := e2) HFE.out HZ.out ((HB.out.trans (HB2.out.mono HB.out.size)).trans HB3.out))
end Go.Proofs.YtplodoindppleaaGreat
namespace Go.Proofs.YtplodoindppleaaGreat
set_option linter.unusedVariables false
open Go.RowKit
open Go.Lib (hid)
def dmM (p : Sv) (l : List C7) : Ms := ⟨{ zM with vp := p }, l, [], []⟩
def uniM (x : Ax) (mp : Sv) (ml : List C7) : List Ms := dmM x.vp x.vl :: dmM mp ml :: saidM [1] x.rs
theorem uniM_sets (x : Ax) (mp : Sv) (ml : List C7) : setsF (uniM x mp ml) = uniL x.att ml := by
 unfold uniM uniL setsF
 show x.vl ++ (ml ++ (saidM [1] x.rs).flatMap Ms.v) = x.vl ++ ml ++ _
 rw [List.append_assoc]
 congr 2
 unfold okL
 show _ = (saidF [1] (x.rs.map Ms.an)).flatMap An.vl
 rw [← saidM_an, List.flatMap_map]; rfl
theorem two_row {W : World} {q : Nat} {p1 p2 : Sv} (h : W.heap[q]? = some (.cells #[.slice p1.a p1.n p1.c, .slice p2.a p2.n p2.c] 32 (0, 0))) {B : Nat} (hB : B ≤ q) : OwnP W B (.slice (some ⟨q, 0, none⟩) 2 2) [p1, p2] :=
 ⟨rfl, .inr ⟨q, 2, _, rfl, hB, h, Nat.le_refl _, by unfold maxLen; omega, rfl, rfl⟩⟩
theorem own_pm {w : World} {B B' k : Nat} {v v' : Value} {ps : List Sv} {ms : List Mg} (h : OwnP w B v ps) (hk : v.ownBlock = some k) (h' : OwnM w B' v' ms) (hk' : v'.ownBlock = some k) : False := by
 obtain ⟨_, cur, h2⟩ := own_no h' hk'
 rcases h.2 with ⟨rfl, h1⟩ | ⟨g, cap, cur', rfl, hb, hg, _⟩
 · cases hk
 · obtain rfl : g = k := Option.some.inj hk
   rw [h2] at hg; injection hg with hg; injection hg with _ e; exact absurd e (by decide)
set_option maxHeartbeats 8000000 in
set_option maxRecDepth 100000 in
theorem cUnionL {w : World} {B p : Nat} {x : Ax} {mp : Sv} {ml : List C7} (h : Ap w B p x) (hl : x.rs.length ≤ 38) (hx : x.vl.length ≤ 1024) (hS : ∀ m ∈ x.rs, m.v.length ≤ 1024) (hm : Sl w mp.v ml) (hml : ml.length ≤ 1024) : Calls Tryz.prog 85 #[ptr p, .slice mp.a mp.n mp.c] w fun e w' => ∃ r, e = .returned (slE r (ofE2 (uniL x.att ml))) ∧ Own w' w.heap.size r (ofL2 (uniL x.att ml)) ∧ Below w.heap.size w w' := by
 have HL := hid hl
 have HXL := hid hx
 have HSH := hid hS
 have HM := hid hm
 have HML := hid hml
 have HAP := hid h
 have k10 := h.cells.2.2.2.1
 have HB2 : Hid (Below w.heap.size w ((w.alloc (.cells #[.slice x.vp.a x.vp.n x.vp.c, .slice mp.a mp.n mp.c] 32)).alloc (.cells #[.int .i64 1] 46))) := hid (laid2_b w _ _)
 have HP2 : Hid (OwnP ((w.alloc (.cells #[.slice x.vp.a x.vp.n x.vp.c, .slice mp.a mp.n mp.c] 32)).alloc (.cells #[.int .i64 1] 46)) w.heap.size (.slice (some ⟨w.heap.size, 0, none⟩) 2 2) [x.vp, mp]) := hid (two_row (laid2_0 w _ _) (Nat.le_refl _))
 have HR : Hid (SoR ((w.alloc (.cells #[.slice x.vp.a x.vp.n x.vp.c, .slice mp.a mp.n mp.c] 32)).alloc (.cells #[.int .i64 1] 46)) (w.heap.size + 1) [1]) := hid (by have := sor1 (w.alloc (.cells #[.slice x.vp.a x.vp.n x.vp.c, .slice mp.a mp.n mp.c] 32)) 1; rwa [show (w.alloc (.cells #[.slice x.vp.a x.vp.n x.vp.c, .slice mp.a mp.n mp.c] 32)).heap.size = w.heap.size + 1 from by simp] at this)
 have HZ : Hid (w.heap.size + 1 < ((w.alloc (.cells #[.slice x.vp.a x.vp.n x.vp.c, .slice mp.a mp.n mp.c] 32)).alloc (.cells #[.int .i64 1] 46)).heap.size) := hid (by simp)
 have hS := cSaid (cap := 1) (HAP.out.on HB2.out) (by omega) HR.out HZ.out (by decide)
 clear h hx hm hml hl
 go_enter Tryz.func85, Tryz.ntmps85
 generalize hLL : saidM [1] x.rs = L at hS
 have HLL := hid hLL
 clear hLL
 go_wp2_with (first | (go_at_call 56; refine hS.mono ?_; rintro e w1 ⟨v0, rfl, ho, hB⟩; obtain ⟨ra, rc, rn, rfl, hrn⟩ := OwnG.asSlice ho; have hca : rn = L.length := (by rw [hrn]; unfold mgs; rw [List.length_map]); clear hrn; have HO := hid ho; have HC := hid hca; have HB1 := hid (HB2.out.trans (hB.mono HB2.out.size)); have HP1 := hid (OwnG.on HP2.out hB); clear ho hB hca) | fail)
 have hsl0 : SlM w1 (.slice ra rn rc) (mgs L) := OwnG.slG kM HO.out
 obtain ⟨b', o, cp, a, hv, ha, hc, hbb⟩ := hsl0
 have hlm : (mgs L).length = L.length := by unfold mgs; rw [List.length_map]
 rw [hlm, ← HC.out] at hv ha hbb
 injection hv with hv1 hv2 hv3
 subst hv1 hv3
 have HCC := hid hc
 have hmL : rn ≤ 38 := by have h1 := HC.out; have h2 := saidM_len [1] x.rs; rw [HLL.out] at h2; have := HL.out; omega
 clear hc hlm hv2
 go_loopw [6, 20] (fun s6 i wr => ∃ (k : Nat) (g : Option Addr) (gn gc : Nat), k ≤ rn ∧ i = .int .i64 k ∧ s6 = .slice g gn gc ∧ Hid (Below w.heap.size w wr) ∧ Hid (OwnM wr w.heap.size (.slice ra rn rc) (mgs L)) ∧ Hid (OwnP wr w.heap.size (.slice g gn gc) (x.vp :: mp :: vps (L.take k))) ) (fun _ i _ => rn - (RowKit.intOf i).toNat)
 case atStart => exact ⟨0, some ⟨w.heap.size, 0, none⟩, 2, 2, Nat.zero_le _, rfl, rfl, HB1, hid (OwnG.mono HO.out HB2.out.size), HP1⟩
 case round =>
  obtain ⟨k, g, gn, gc, hk, rfl, rfl, HB, HOM, HOP⟩ := hrel
  by_cases hlt : k < rn
  · have hlti : ((k : Int) < rn) := by omega
    obtain rfl := ha (by omega)
    obtain ⟨y, hy⟩ : ∃ y, L[k]? = some y := ⟨L[k]'(by rw [← HC.out]; exact hlt), List.getElem?_eq_getElem (by rw [← HC.out]; exact hlt)⟩
    have HCY : Hid (wr.rangeAt b' (o + k * 20) y.m.list) := hid (by obtain ⟨b2, o2, c2, a2, hv, ha2, hc2, _⟩ := OwnG.slG kM HOM.out; injection hv with hv1 _ hv3; have h3 := ha2 (by have h4 := HC.out; have : (mgs L).length = L.length := (by unfold mgs; rw [List.length_map]); omega); rw [← hv1] at h3; injection h3 with h3; injection h3 with h5 h6; rw [h5, h6]; exact hc2 k y.m (at_mgs hy))
    have HY := hid hy
    clear hy
    go_upto_region 5 with (first
     | ((with_reducible refine loadMl (x := ?lx1) (b := ?lb1) (o := ?lo1) y.m ?lg1 ?lp1 ?lxx1 ?lc1 ?_); (case lg1 => rfl); (case lp1 => rfl); (case lxx1 => rfl); (case lc1 => exact HCY.out))
     | ((with_reducible refine storeM (x := ?sx2) (y := ?sy2) (b := wr.heap.size) y.m ?sg2 ?so2 ?sxx2 ?syy2 ?sc2 ?sh2); (case sg2 => rfl); (case so2 => rfl); (case sxx2 => rfl); (case syy2 => rfl); (case sc2 => exact roomZ wr); intro W1 hO hU; have HO1 : Hid (OM W1 wr.heap.size y.m) := hid hO; have HB1' : Hid (Below wr.heap.size wr W1) := hid ((laid1_b wr zeroMc).trans (hU.below wr.heap.size (Nat.le_refl _))); have c0 : W1.cell? ⟨wr.heap.size, 12, none⟩ = some (.slice y.m.vp.a y.m.vp.n y.m.vp.c) := HO1.out.cell (m := y.m) (j := 12) rfl; clear hO hU)
     | fail)
    have HW1 : Hid (Below w.heap.size w W1) := hid (HB.out.trans (HB1'.out.mono HB.out.size))
    have HOP1 := hid (OwnG.on HOP.out HB1'.out)
    have HOM1 := hid (OwnG.on HOM.out HB1'.out)
    obtain ⟨W4, hW4⟩ : ∃ z, z = W1.alloc (.cells #[.slice y.m.vp.a y.m.vp.n y.m.vp.c] 32) := ⟨_, rfl⟩
    have HX4 : Hid (W4.heap[W1.heap.size]? = some (.cells #[.slice y.m.vp.a y.m.vp.n y.m.vp.c] 32 (0, 0))) := hid (by rw [hW4]; exact heap_alloc_new W1 _)
    have HB4 : Hid (Below W1.heap.size W1 W4) := hid (by rw [hW4]; exact laid1_b W1 _)
    have HW4 := hid hW4
    clear hW4
    go_wp2_with (first | (at_builtin; rw [← HW4.out]; refine wpList_append_sv rfl _ _ rfl w.heap.size _ (x.vp :: mp :: vps (L.take k)) rfl (OwnG.on HOP1.out HB4.out) _ [y.m.vp] rfl (SlP.one (p := y.m.vp) HX4.out 1) (fun h => absurd h (by simp)) (by have h2 : (vps (L.take k)).length ≤ 38 := (by unfold vps; rw [List.length_map]; exact Nat.le_trans (List.length_take_le _ _) (by omega)); simp; omega) (Nat.le_trans HW1.out.size HB4.out.size) ?_; intro v5 w5 ho5 hg5; obtain ⟨g5, c5, n5, rfl, hn5⟩ := OwnG.asSlice ho5; have HO5 := hid ho5; have HG5 := hid hg5; have HB5 := hid ((HW1.out.trans (HB4.out.mono HW1.out.size)).grown hg5 (Nat.le_trans HW1.out.size HB4.out.size) (fun q hq => ((OwnG.on HOP1.out HB4.out).lt q hq).1)); clear ho5 hg5 hn5) | fail)
    go_roundw
    case rel => exact ⟨k + 1, g5, n5, c5, by omega, by go_num, rfl, HB5, hid (own_tch (OwnG.on HOM1.out HB4.out) (Tch.ofGrown (S := fun k => (Value.slice g gn gc).ownBlock = some k) HG5.out (fun k hk => hk)) (fun k hk hs => own_pm (OwnG.on HOP1.out HB4.out) hs (OwnG.on HOM1.out HB4.out) hk)), hid (by have := HO5.out; rwa [show x.vp :: mp :: vps (L.take k) ++ [y.m.vp] = x.vp :: mp :: vps (L.take (k + 1)) by unfold vps; rw [List.take_add_one, HY.out]; simp] at this)⟩
    case measure => first | omega | (simp [RowKit.intOf]; omega)
  · have hlti : ¬ ((k : Int) < rn) := by omega
    have HE : Hid (L.take k = L) := hid (by rw [show k = rn by omega, HC.out, List.take_length])
    have hU := cUnionM (ls := uniM x mp ml) (show SlP wr (.slice g gn gc) (vps (uniM x mp ml)) by have := HOP.out; rw [HE.out] at this; have h2 : vps (uniM x mp ml) = x.vp :: mp :: vps L := (by unfold uniM; rw [HLL.out]; rfl); rw [h2]; exact OwnG.slG kSv this) (fun m hm => by unfold uniM at hm; rcases List.mem_cons.1 hm with rfl | hm; exact (HAP.out.on HB.out).vs.1; rcases List.mem_cons.1 hm with rfl | hm; exact HM.out.on HB.out; exact ((HAP.out.on HB.out).rs m (saidM_mem hm)).1.1) (fun m hm => by unfold uniM at hm; rcases List.mem_cons.1 hm with rfl | hm; exact HXL.out; rcases List.mem_cons.1 hm with rfl | hm; exact HML.out; exact HSH.out m (saidM_mem hm)) (by unfold uniM; have h1 := saidM_len [1] x.rs; have := HL.out; simp; omega)
    rw [uniM_sets] at hU
    obtain ⟨e2, he2⟩ : ∃ z, z = ofE2 (uniL x.att ml) := ⟨_, rfl⟩
    rw [← he2] at hU
    have HE2 := hid he2
    clear he2
    go_wp2_with (first | (go_at_call 114; refine hU.mono ?_; rintro e w2 ⟨r, rfl, ho, hB⟩; obtain ⟨ra, rc, rn2, rfl, hrn⟩ := Own.asSlice ho; have HOW := hid ho; have HB3 := hid hB; clear ho hB hrn) | fail)
    go_ret2
    exact ⟨_, by rw [← HE2.out]; rfl, own_monoB HOW.out HB.out.size, HB.out.trans (HB3.out.mono HB.out.size)⟩
end Go.Proofs.YtplodoindppleaaGreat
