import Derived.Test.YtlehcaacfgocaaaGreatG44
import Derived.Deep.CutRange
namespace Go.Proofs.YtlehcaacfgocaaaGreat
set_option linter.unusedVariables false
open Go.RowKit
open Go.Lib (hid)
theorem find_rev {α : Type} {p : α → Bool} {l : List α} {j : Nat} {x : α} (h : ∀ y ∈ l.drop (j + 1), p y = false) (hx : l[j]? = some x) (hp : p x = true) : l.reverse.find? p = some x := by
  obtain ⟨hj, rfl⟩ := List.getElem?_eq_some_iff.1 hx
  have e : l = l.take j ++ (l[j] :: l.drop (j + 1)) := by rw [← List.drop_eq_getElem_cons hj, List.take_append_drop]
  have e2 : l.reverse = (l.drop (j + 1)).reverse ++ (l[j] :: (l.take j).reverse) := by
    conv => lhs; rw [e]
    simp
  rw [e2, List.find?_append, List.find?_eq_none.2 (fun y hy => by rw [h y (List.mem_reverse.1 hy)]; simp)]
  rw [List.find?_cons_of_pos hp]
  rfl
theorem dropA {α : Type} {l : List α} {j : Nat} {x : α} (hx : l[j]? = some x) : l.drop j = x :: l.drop (j + 1) := by
  obtain ⟨hj, rfl⟩ := List.getElem?_eq_some_iff.1 hx
  exact List.drop_eq_getElem_cons hj
set_option maxHeartbeats 16000000 in
set_option maxRecDepth 100000 in
theorem cAsked {w : World} {Bv : Nat} {v : Value} {ws : List Ms} {m a : Ms} {l' : List C7} (ho : OwnM w Bv v (mgs ws)) (hl : ws.length ≤ 900) (hws : ∀ x ∈ ws, x.at w) (hm : m.at w) (hask : askF ws m a.an = some l') :
    Calls Tryz.prog 23 #[.agg m.m.arr, v, .agg a.m.arr] w fun e w' => ∃ u, e = .returned (.tuple #[u, .bool true]) ∧ Sl w' u l' ∧ Below w.heap.size w w' := by
  have HB0 := hid (laid2_b w (.cells m.m.arr 50) (.cells a.m.arr 50))
  have HM0 : Hid (OM ((w.alloc (.cells m.m.arr 50)).alloc (.cells a.m.arr 50)) w.heap.size m.m) := hid (laid2_0 w _ _)
  have HA0 : Hid (OM ((w.alloc (.cells m.m.arr 50)).alloc (.cells a.m.arr 50)) (w.heap.size + 1) a.m) := hid (laid2_1 w _ _)
  have HO := hid ho
  have HL := hid hl
  have HWS := hid hws
  have HMA := hid hm
  have HASK := hid hask
  clear ho hl hws hm hask
  obtain ⟨la, lc, ln, rfl, hln⟩ := HO.out.asSlice
  clear hln
  go_enter Tryz.func23, Tryz.ntmps23
  go_upto_region 1 with fail
  generalize ((w.alloc (.cells m.m.arr 50)).alloc (.cells a.m.arr 50)) = W0 at HB0 HM0 HA0 ⊢
  obtain ⟨pm, hpm⟩ : ∃ p, p = w.heap.size := ⟨_, rfl⟩
  obtain ⟨pa, hpa⟩ : ∃ p, p = w.heap.size + 1 := ⟨_, rfl⟩
  rw [← hpa] at HA0 ⊢
  rw [← hpm] at HM0 ⊢
  clear hpm hpa
  have hlw : (mgs ws).length = ws.length := by unfold mgs; rw [List.length_map]
  have HLW := hid hlw
  clear hlw
  have HO0 := hid (OwnG.on HO.out HB0.out)
  go_wp2_with (first
    | (at_builtin; (refine wpList_copy_ms (w0 := W0) rfl _ _ rfl rfl rfl rfl rfl HO0.out (by rw [HLW.out]; have := HL.out; omega) ?_); intro v1 w1 ho1 hB1; obtain ⟨a1, c1, n1, rfl, hn1⟩ := OwnG.asSlice ho1; clear hn1; have HO1 := hid ho1; have HB1 : Hid (Below W0.heap.size W0 w1) := hid hB1; have HM1 : Hid (OM w1 pm m.m) := hid (heapB HM0.out hB1 (Array.getElem?_eq_some_iff.1 HM0.out).1); clear ho1 hB1)
    | ((with_reducible refine loadM (x := ?lx1) (b := pm) m.m ?lg1 ?lo1 ?lxx1 ?lc1 ?lh1); (case lg1 => rfl); (case lo1 => rfl); (case lxx1 => rfl); (case lc1 => exact HM1.out))
    | ((with_reducible refine wpList_bsM (x := ?bx2) m.m ?bg2 ?bo2 ?be2 ?bh2); (case bg2 => rfl); (case bo2 => rfl); (case be2 => rfl); intro w2 hO hBb hWb; have HO2 := hid hO; have HB2 := hid hBb; have HOW2 := hid (OwnG.on HO1.out hBb); clear hO hBb hWb)
    | ((with_reducible refine wpList_append_ms ?ag3 ?as3 ?ax3 ?ao3 W0.heap.size _ (mgs ws) ?es3 HOW2.out (.slice (some ⟨w1.heap.size, 0, none⟩) 1 1) [m.m] ?ex3 (OM.sl HO2.out 1) (fun e => by cases e) ?el3 ?eb3 ?eh3); (case ag3 => rfl); (case ao3 => rfl); (case es3 => rfl); (case ex3 => rfl); (case el3 => have := HL.out; have := HLW.out; simp only [List.length_singleton]; omega); (case eb3 => exact Nat.le_trans HB1.out.size HB2.out.size); intro v3 w3 ho3 hg3; obtain ⟨a3, c3, n3, rfl, hn3⟩ := OwnG.asSlice ho3; have HO3 := hid ho3; have HN3 := hid hn3; have HB3 : Hid (Below W0.heap.size W0 w3) := hid ((HB1.out.trans (HB2.out.mono HB1.out.size)).grown hg3 (Nat.le_trans HB1.out.size HB2.out.size) fun k hk => (HOW2.out.lt k hk).1); have hn3' : n3 ≤ 1000 := (by rw [hn3]; have := HL.out; have := HLW.out; simp only [List.length_append, List.length_singleton]; omega); have hn1' : 1 ≤ n3 := (by rw [hn3]; simp only [List.length_append, List.length_singleton]; omega); clear ho3 hg3 hn3)
    | fail)
  obtain ⟨all, hall⟩ : ∃ z, z = ws ++ [m] := ⟨_, rfl⟩
  have HAL : Hid (SlM w3 (.slice a3 n3 c3) (mgs all)) := hid (by have := OwnG.slG kM HO3.out; rw [hall]; unfold mgs at this ⊢; rw [List.map_append]; exact this)
  have HNA : Hid (n3 = all.length) := hid (by rw [HN3.out, hall]; unfold mgs; simp)
  have HAT : Hid (∀ x ∈ all, x.at w) := hid (fun x hx => by rw [hall] at hx; rcases List.mem_append.1 hx with hx | hx; exact HWS.out x hx; rw [List.mem_singleton] at hx; subst hx; exact HMA.out)
  have HFD : Hid ((all.reverse.find? (askP a.an)).map Ms.v = some l') := hid (by have := HASK.out; unfold askF at this; rw [hall]; exact this)
  have HBW3 : Hid (Below w.heap.size w w3) := hid (HB0.out.trans (HB3.out.mono HB0.out.size))
  have HA3 : Hid (OM w3 pa a.m) := hid (heapB HA0.out HB3.out (Array.getElem?_eq_some_iff.1 HA0.out).1)
  clear hall HO0 HO1 HB1 HM1 HO2 HB2 HOW2 HO3 HN3 HB3 HO HWS HMA HASK HLW HM0 HA0 HB0
  go_loopg [9, 10] n3 (fun gg s9 s10 wr => ∃ (k : Nat) (z : Int), k ≤ n3 ∧ k ≤ gg ∧ s9 = .int .i64 z ∧ z = (k : Int) - 1 ∧ Hid (∀ y ∈ all.drop k, askP a.an y = false) ∧ Hid (Below w3.heap.size w3 wr))
  case atStart => exact ⟨n3, _, Nat.le_refl _, Nat.le_refl _, rfl, rfl, hid (by rw [HNA.out, List.drop_length]; simp), hid (Below.refl _ _)⟩
  case round =>
    obtain ⟨k, z, hk, hgg, rfl, hz, HNO, HB⟩ := hrel
    by_cases hk0 : k = 0
    · exfalso
      have h := HFD.out
      rw [List.find?_eq_none.2 (fun y hy => by rw [HNO.out y (by rw [hk0, List.drop_zero]; exact List.mem_reverse.1 hy)]; simp)] at h
      cases h
    obtain ⟨j, rfl⟩ : ∃ j, k = j + 1 := ⟨k - 1, by omega⟩
    obtain rfl : z = (j : Int) := by omega
    clear hz hk0
    have hj : j < n3 := by omega
    obtain ⟨x, hx⟩ : ∃ x, all[j]? = some x := ⟨all[j]'(by rw [← HNA.out]; exact hj), List.getElem?_eq_getElem (by rw [← HNA.out]; exact hj)⟩
    have hsl := HAL.out
    obtain ⟨b9, o9, cc9, aa9, e0, ha0, hr0, hl0⟩ := hsl
    have hlo : (mgs all).length = n3 := by unfold mgs; rw [List.length_map]; exact HNA.out.symm
    rw [hlo] at e0 ha0 hl0
    injection e0 with e01 e02 e03
    subst e01
    obtain rfl := ha0 (by omega)
    have HCX : Hid (wr.rangeAt b9 (o9 + j * 20) x.m.list) := hid (by have h1 := hr0 j x.m (at_mgs hx); exact fun i u hu => (HB.out.cell (hl0 (by omega))).trans (h1 i u hu))
    have HX := hid hx
    have HXA : Hid (x.at w3) := hid ((HAT.out x (List.mem_of_getElem? hx)).on HBW3.out)
    clear hx e02 e03 ha0 hr0 hl0 hlo
    have HA4 : Hid (OM wr pa a.m) := hid (heapB HA3.out HB.out (Array.getElem?_eq_some_iff.1 HA3.out).1)
    have hz0 : ((0 : Int) ≤ (j : Int)) := by omega
    obtain ⟨so, hso⟩ : ∃ z, z = x.m.so := ⟨_, rfl⟩
    have Hso := hid hso
    clear hso
    obtain ⟨xi, hxi⟩ : ∃ z, z = x.m.c.i := ⟨_, rfl⟩
    have Hxi := hid hxi
    clear hxi
    obtain ⟨xf, hxf⟩ : ∃ z, z = x.m.fr := ⟨_, rfl⟩
    have Hxf := hid hxf
    clear hxf
    obtain ⟨xb, hxb⟩ : ∃ z, z = x.m.bal := ⟨_, rfl⟩
    have Hxb := hid hxb
    clear hxb
    obtain ⟨xt, hxt⟩ : ∃ z, z = x.m.vt := ⟨_, rfl⟩
    have Hxt := hid hxt
    clear hxt
    obtain ⟨ai, hai⟩ : ∃ z, z = a.m.c.i := ⟨_, rfl⟩
    have Hai := hid hai
    clear hai
    obtain ⟨at2, hat2⟩ : ∃ z, z = a.m.tt := ⟨_, rfl⟩
    have Hat2 := hid hat2
    clear hat2
    obtain ⟨ab, hab⟩ : ∃ z, z = a.m.bal := ⟨_, rfl⟩
    have Hab := hid hab
    clear hab
    obtain ⟨av, hav⟩ : ∃ z, z = a.m.vt := ⟨_, rfl⟩
    have Hav := hid hav
    clear hav
    have HAP : Hid (askP a.an x = (decide (so = 0) && (decide (xi = ai) && (decide (xf = at2) && (decide (xb = ab) && decide (xt = av)))))) := hid (by unfold askP; rw [Hso.out, Hxi.out, Hxf.out, Hxb.out, Hxt.out, Hai.out, Hat2.out, Hab.out, Hav.out]; rfl)
    go_upto_region 7 with (first
      | ((with_reducible refine loadMl (x := ?lx9) (b := ?lb9) (o := ?lo9) x.m ?lg9 ?lp9 ?lxx9 ?lc9 ?_); (case lg9 => rfl); (case lp9 => rfl); (case lxx9 => rfl); (case lc9 => exact HCX.out))
      | ((with_reducible refine storeM (x := ?sx10) (y := ?sy10) (b := wr.heap.size) x.m ?sg10 ?so10 ?sxx10 ?syy10 ?sc10 ?sh10); (case sg10 => rfl); (case so10 => rfl); (case sxx10 => rfl); (case syy10 => rfl); (case sc10 => exact ⟨_, heap_alloc_new wr _, rfl⟩); intro w7 hO hU; have HO7 : Hid (OM w7 wr.heap.size x.m) := hid hO; have hb27 := (laid1_b wr zeroMc).trans (hU.below wr.heap.size (Nat.le_refl _)); have HB7 : Hid (Below w3.heap.size w3 w7) := hid (HB.out.trans (hb27.mono HB.out.size)); have HA7 : Hid (OM w7 pa a.m) := hid (heapB HA4.out hb27 (Array.getElem?_eq_some_iff.1 HA4.out).1); clear hO hU hb27; have cso : w7.cell? ⟨wr.heap.size, 0, none⟩ = some (.int .i64 so) := (by rw [Hso.out]; exact HO7.out.cell (j := 0) rfl); have cxi : w7.cell? ⟨wr.heap.size, 4, none⟩ = some (.int .i64 xi) := (by rw [Hxi.out]; exact HO7.out.cell (j := 4) rfl); have cxf : w7.cell? ⟨wr.heap.size, 1, none⟩ = some (.int .i64 xf) := (by rw [Hxf.out]; exact HO7.out.cell (j := 1) rfl); have cxb : w7.cell? ⟨wr.heap.size, 3, none⟩ = some (.int .i64 xb) := (by rw [Hxb.out]; exact HO7.out.cell (j := 3) rfl); have cxt : w7.cell? ⟨wr.heap.size, 11, none⟩ = some (.int .i64 xt) := (by rw [Hxt.out]; exact HO7.out.cell (j := 11) rfl); have cai : w7.cell? ⟨pa, 4, none⟩ = some (.int .i64 ai) := (by rw [Hai.out]; exact HA7.out.cell (j := 4) rfl); have cat2 : w7.cell? ⟨pa, 2, none⟩ = some (.int .i64 at2) := (by rw [Hat2.out]; exact HA7.out.cell (j := 2) rfl); have cab : w7.cell? ⟨pa, 3, none⟩ = some (.int .i64 ab) := (by rw [Hab.out]; exact HA7.out.cell (j := 3) rfl); have cav : w7.cell? ⟨pa, 11, none⟩ = some (.int .i64 av) := (by rw [Hav.out]; exact HA7.out.cell (j := 11) rfl); have c12 : w7.cell? ⟨wr.heap.size, 12, none⟩ = some (.slice x.m.vp.a x.m.vp.n x.m.vp.c) := HO7.out.cell (m := x.m) (j := 12) rfl)
      | fail)
    go_frame
    go_cut [63] from 21 to 66 (fun u wx => u = .bool (askP a.an x) ∧ wx = w7)
    case first =>
      by_cases d0 : so = 0
      · have g0 : (so == 0) = true := by simpa using d0
        by_cases d1 : xi = ai
        · have g1 : (xi == ai) = true := by simpa using d1
          by_cases d2 : xf = at2
          · have g2 : (xf == at2) = true := by simpa using d2
            by_cases d3 : xb = ab
            · have g3 : (xb == ab) = true := by simpa using d3
              by_cases d4 : xt = av
              · have g4 : (xt == av) = true := by simpa using d4
                go_wp2_with fail
                go_meet
                exact ⟨by rw [HAP.out]; simp [*], rfl⟩
              · have g4 : (xt == av) = false := by simpa using d4
                go_wp2_with fail
                go_meet
                exact ⟨by rw [HAP.out]; simp [*], rfl⟩
            · have g3 : (xb == ab) = false := by simpa using d3
              go_wp2_with fail
              go_meet
              exact ⟨by rw [HAP.out]; simp [*], rfl⟩
          · have g2 : (xf == at2) = false := by simpa using d2
            go_wp2_with fail
            go_meet
            exact ⟨by rw [HAP.out]; simp [*], rfl⟩
        · have g1 : (xi == ai) = false := by simpa using d1
          go_wp2_with fail
          go_meet
          exact ⟨by rw [HAP.out]; simp [*], rfl⟩
      · have g0 : (so == 0) = false := by simpa using d0
        go_wp2_with fail
        go_meet
        exact ⟨by rw [HAP.out]; simp [*], rfl⟩
    obtain ⟨rfl, hwx⟩ := hcut
    subst hwx
    rcases hq : askP a.an x with _ | _
    · go_wp2_with fail
      go_roundg j
      case measure => omega
      case rel => exact ⟨j, (j : Int) - 1, by omega, by omega, by go_num, rfl, hid (fun y hy => by rw [dropA HX.out] at hy; rcases List.mem_cons.1 hy with rfl | hy; exact hq; exact HNO.out y hy), HB7⟩
    · have hf := HFD.out
      rw [find_rev HNO.out HX.out hq] at hf
      have HLQ := hid (show x.v = l' from Option.some.inj hf)
      clear hf
      go_wp2_with fail
      go_ret2
      exact ⟨_, rfl, by rw [← HLQ.out]; exact HXA.out.1.on HB7.out, HBW3.out.trans (HB7.out.mono HBW3.out.size)⟩
end Go.Proofs.YtlehcaacfgocaaaGreat
