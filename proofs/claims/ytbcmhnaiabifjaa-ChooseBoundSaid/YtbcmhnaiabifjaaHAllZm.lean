import Derived.Test.YtbcmhnaiabifjaaG28
import Derived.Test.YtbcmhnaiabifjaaG24
import Derived.Test.YtbcmhnaiabifjaaHAliveHZm
namespace Go.Proofs.Ytbcmhnaiabifjaa
set_option linter.unusedVariables false
open Go.RowKit
open Go.Lib (hid)
theorem setsMF {w : World} {q : Nat} {m : Mg} (h : OM w q m) (t : Int) (p : Sv) : OM (w.setCells q 18 (varr t p).toList) q { m with ft := t, fp := p } := by
  obtain ⟨C', h1, h2, h3, h5, h4⟩ := setsMid (varr t p).toList 18 m.arr w h
  have : C' = ({ m with ft := t, fp := p } : Mg).arr := by
    apply Array.ext_getElem?
    intro j
    by_cases hj : j < 18
    · rw [h3 j hj]
      rcases (by omega : j = 0 ∨ j = 1 ∨ j = 2 ∨ j = 3 ∨ j = 4 ∨ j = 5 ∨ j = 6 ∨ j = 7 ∨ j = 8 ∨ j = 9 ∨ j = 10 ∨ j = 11 ∨ j = 12 ∨ j = 13 ∨ j = 14 ∨ j = 15 ∨ j = 16 ∨ j = 17) with rfl | rfl | rfl | rfl | rfl | rfl | rfl | rfl | rfl | rfl | rfl | rfl | rfl | rfl | rfl | rfl | rfl | rfl <;> rfl
    · by_cases hj2 : j < 20
      · have := h4 (j - 18) (by rw [varr_list]; show j - 18 < 2; omega) (by rw [Mg.size]; omega)
        rw [show 18 + (j - 18) = j by omega] at this
        rw [this]
        rcases (by omega : j = 18 ∨ j = 19) with rfl | rfl <;> rfl
      · rw [h5 j (by rw [varr_list]; show 18 + 2 ≤ j; omega)]
        rw [Array.getElem?_eq_none (by rw [Mg.size]; omega), Array.getElem?_eq_none (by rw [Mg.size]; omega)]
  subst this
  exact h1
theorem storeMF {ops : Array Oper} {rest : List Oper} {op : Oper} {c : Act} {w : World} {Q : Exit → Act → World → Prop} {x y : Operand} {b : Nat} (m : Mg) (t : Int) (p : Sv) (hgd : op.guard = none) (ho : op.op = .store 28 x y)
    (hx : c.eval x = .pointer (some ⟨b, 18, none⟩)) (hy : c.eval y = .agg (varr t p)) (hC : OM w b m) (h : ∀ W, OM W b { m with ft := t, fp := p } → Upd b w W → wpList Try.prog ops Q rest (c.put op.dst undef) W) : wpList Try.prog ops Q (op :: rest) c w :=
  wpList_store_mid hgd 28 x y ho b 18 (varr t p) hx hy (thereAt hC (by rw [Mg.size]; show 18 + 2 ≤ 20; decide)) (infoVl' t p) (varr_one t p) (h _ (setsMF hC t p) (setsUpd' w b 18 _))
theorem setsMA {w : World} {q : Nat} {m : Mg} (h : OM w q m) (t : Int) (p : Sv) : OM (w.setCells q 16 (varr t p).toList) q { m with xt := t, xp := p } := by
  obtain ⟨C', h1, h2, h3, h5, h4⟩ := setsMid (varr t p).toList 16 m.arr w h
  have : C' = ({ m with xt := t, xp := p } : Mg).arr := by
    apply Array.ext_getElem?
    intro j
    by_cases hj : j < 16
    · rw [h3 j hj]
      rcases (by omega : j = 0 ∨ j = 1 ∨ j = 2 ∨ j = 3 ∨ j = 4 ∨ j = 5 ∨ j = 6 ∨ j = 7 ∨ j = 8 ∨ j = 9 ∨ j = 10 ∨ j = 11 ∨ j = 12 ∨ j = 13 ∨ j = 14 ∨ j = 15) with rfl | rfl | rfl | rfl | rfl | rfl | rfl | rfl | rfl | rfl | rfl | rfl | rfl | rfl | rfl | rfl <;> rfl
    · by_cases hj2 : j < 18
      · have := h4 (j - 16) (by rw [varr_list]; show j - 16 < 2; omega) (by rw [Mg.size]; omega)
        rw [show 16 + (j - 16) = j by omega] at this
        rw [this]
        rcases (by omega : j = 16 ∨ j = 17) with rfl | rfl <;> rfl
      · rw [h5 j (by rw [varr_list]; show 16 + 2 ≤ j; omega)]
        by_cases hj3 : j < 20
        · rcases (by omega : j = 18 ∨ j = 19) with rfl | rfl <;> rfl
        · rw [Array.getElem?_eq_none (by rw [Mg.size]; omega), Array.getElem?_eq_none (by rw [Mg.size]; omega)]
  subst this
  exact h1
theorem storeMA {ops : Array Oper} {rest : List Oper} {op : Oper} {c : Act} {w : World} {Q : Exit → Act → World → Prop} {x y : Operand} {b : Nat} (m : Mg) (t : Int) (p : Sv) (hgd : op.guard = none) (ho : op.op = .store 28 x y)
    (hx : c.eval x = .pointer (some ⟨b, 16, none⟩)) (hy : c.eval y = .agg (varr t p)) (hC : OM w b m) (h : ∀ W, OM W b { m with xt := t, xp := p } → Upd b w W → wpList Try.prog ops Q rest (c.put op.dst undef) W) : wpList Try.prog ops Q (op :: rest) c w :=
  wpList_store_mid hgd 28 x y ho b 16 (varr t p) hx hy (thereAt hC (by rw [Mg.size]; show 16 + 2 ≤ 20; decide)) (infoVl' t p) (varr_one t p) (h _ (setsMA hC t p) (setsUpd' w b 16 _))
abbrev mk0 (c : C7) (i : Nat) : Mg := { zM with so := 4, fr := (i : Int), bal := 9, c := c, s := 16 * ((i : Int) + 1) + (i : Int) }
def mkA (ls : List Ms) (c : C7) (i : Nat) : Ms := match ls[i]? with
  | some y => ⟨{ mk0 c i with ft := y.m.ft, fp := y.m.fp, ab := y.m.ab, xt := y.m.xt, xp := y.m.xp, fl := y.m.fl }, [], y.a, y.f⟩
  | none => ⟨mk0 c i, [], [], []⟩
def allA (ls : List Ms) (c : C7) (n : Nat) : List Ms := (List.range n).map (mkA ls c)
theorem allA_next (ls : List Ms) (c : C7) (k : Nat) : allA ls c (k + 1) = allA ls c k ++ [mkA ls c k] := by unfold allA; rw [List.range_succ, List.map_append]; rfl
theorem allA_len (ls : List Ms) (c : C7) (k : Nat) : (allA ls c k).length = k := by unfold allA; simp
theorem mkA_at {w : World} {ls : List Ms} {c : C7} {i : Nat} (h : ∀ m ∈ ls, m.at w) : (mkA ls c i).at w := by
  have hn : Sl w (.slice none 0 0) [] := (Own.nil w 0).sl
  unfold mkA
  rcases hi : ls[i]? with _ | y
  · exact ⟨hn, hn, hn⟩
  · have := h y (List.mem_of_getElem? hi)
    exact ⟨hn, this.2.1, this.2.2⟩
theorem mkA_short {ls : List Ms} {c : C7} {i k : Nat} (h : ∀ m ∈ ls, m.short k) : (mkA ls c i).short k := by
  unfold mkA
  rcases hi : ls[i]? with _ | y
  · exact ⟨by simp, by simp, by simp⟩
  · have := h y (List.mem_of_getElem? hi)
    exact ⟨by simp, this.2.1, this.2.2⟩
def AllP (w : World) (ls : List Ms) (c : C7) (n : Nat) (e : Ending) (w' : World) : Prop := e = .returned (.tuple #[.slice none 0 0, .bool false]) ∨ ∃ (g : Option Addr) (gn gc : Nat), e = .returned (.tuple #[.slice g gn gc, .bool true]) ∧ OwnM w' w.heap.size (.slice g gn gc) (mgs (allA ls c n)) ∧ ∀ x ∈ allA ls c n, rightM x = true
set_option maxHeartbeats 32000000 in
set_option maxRecDepth 100000 in
theorem cAll {v : Value} {ls : List Ms} {w : World} (n : Nat) (h9 : n ≤ 9) (c : C7) (h : SlM w v (mgs ls)) (hA : ∀ m ∈ ls, m.at w) (hS : ∀ m ∈ ls, m.short 1024) (hl : ls.length ≤ 1000) : Calls Try.prog 14 #[.int .i64 (n : Int), v, .agg #[.int .i64 c.i, .int .i64 c.k, .int .i64 c.s, .int .i64 c.t, .int .i64 c.d, .int .i64 c.p, .int .i64 c.q], .int .i64 9] w fun e w' => AllP w ls c n e w' ∧ Below w.heap.size w w' := by
  have HSH := hid hS
  clear hS
  have HLL := hid hl
  obtain ⟨b, o, cap, a, rfl, ha, hc, hb⟩ := h
  have hlm : (mgs ls).length = ls.length := by unfold mgs; rw [List.length_map]
  rw [hlm] at ha hb ⊢
  have HA := hid hA
  have HCC := hid hc
  obtain ⟨m, hm⟩ : ∃ m, m = ls.length := ⟨_, rfl⟩
  rw [← hm] at ha hb hl ⊢
  have HN := hid hm
  clear hm hA hc hlm
  have HB0 : Hid (Below w.heap.size w (w.alloc (.cells #[.int .i64 c.i, .int .i64 c.k, .int .i64 c.s, .int .i64 c.t, .int .i64 c.d, .int .i64 c.p, .int .i64 c.q] 47))) := hid (laid1_b w _)
  have HC0 : Hid ((w.alloc (.cells #[.int .i64 c.i, .int .i64 c.k, .int .i64 c.s, .int .i64 c.t, .int .i64 c.d, .int .i64 c.p, .int .i64 c.q] 47)).heap[w.heap.size]? = some (.cells #[.int .i64 c.i, .int .i64 c.k, .int .i64 c.s, .int .i64 c.t, .int .i64 c.d, .int .i64 c.p, .int .i64 c.q] 47)) := hid (laid1_0 w _)
  have hm1 : m ≤ 1000 := by omega
  go_enter Try.func14, Try.ntmps14
  go_wp2_with fail
  go_loopw [10, 11] (fun s10 i wr => ∃ (k : Nat) (g : Option Addr) (gn gc : Nat), k ≤ n ∧ i = .int .i64 k ∧ s10 = .slice g gn gc ∧ Hid (OwnM wr (w.heap.size + 1) (.slice g gn gc) (mgs (allA ls c k))) ∧ Hid (∀ x ∈ allA ls c k, rightM x = true) ∧ Hid (Below (w.alloc (.cells #[.int .i64 c.i, .int .i64 c.k, .int .i64 c.s, .int .i64 c.t, .int .i64 c.d, .int .i64 c.p, .int .i64 c.q] 47)).heap.size (w.alloc (.cells #[.int .i64 c.i, .int .i64 c.k, .int .i64 c.s, .int .i64 c.t, .int .i64 c.d, .int .i64 c.p, .int .i64 c.q] 47)) wr)) (fun _ i _ => n - (RowKit.intOf i).toNat)
  case atStart => exact ⟨0, none, 0, 0, Nat.zero_le _, rfl, rfl, hid (OwnG.nil _ _ _ _ _), hid (by unfold allA; simp), hid (Below.refl _ _)⟩
  case round =>
    obtain ⟨k, g, gn, gc, hk, rfl, rfl, HO, HAR, HBz⟩ := hrel
    have HB1 : Hid (Below (w.heap.size + 1) (w.alloc (.cells #[.int .i64 c.i, .int .i64 c.k, .int .i64 c.s, .int .i64 c.t, .int .i64 c.d, .int .i64 c.p, .int .i64 c.q] 47)) wr) := hid (by have := HBz.out; simpa using this)
    have HB : Hid (Below w.heap.size w wr) := hid (HB0.out.trans (HB1.out.mono (Nat.le_succ _)))
    have HC : Hid (wr.heap[w.heap.size]? = some (.cells #[.int .i64 c.i, .int .i64 c.k, .int .i64 c.s, .int .i64 c.t, .int .i64 c.d, .int .i64 c.p, .int .i64 c.q] 47)) := hid ((HB1.out.block _ (Nat.lt_succ_self _)).trans HC0.out)
    have HSZ : Hid (w.heap.size + 1 ≤ wr.heap.size) := hid (by have := HB1.out.size; simpa using this)
    by_cases hlt : k < n
    · have hlti : ((k : Int) < n) := by omega
      have hk9 : k ≤ 9 := by omega
      have hki : ((k : Int) + 1) ≤ 10 := by omega
      have c0 : wr.cell? ⟨w.heap.size, 0, none⟩ = some (.int .i64 c.i) := (cellAt' HC.out 0).trans rfl
      have c1 : wr.cell? ⟨w.heap.size, 1, none⟩ = some (.int .i64 c.k) := (cellAt' HC.out 1).trans rfl
      have c2 : wr.cell? ⟨w.heap.size, 2, none⟩ = some (.int .i64 c.s) := (cellAt' HC.out 2).trans rfl
      have c3 : wr.cell? ⟨w.heap.size, 3, none⟩ = some (.int .i64 c.t) := (cellAt' HC.out 3).trans rfl
      have c4 : wr.cell? ⟨w.heap.size, 4, none⟩ = some (.int .i64 c.d) := (cellAt' HC.out 4).trans rfl
      have c5 : wr.cell? ⟨w.heap.size, 5, none⟩ = some (.int .i64 c.p) := (cellAt' HC.out 5).trans rfl
      have c6 : wr.cell? ⟨w.heap.size, 6, none⟩ = some (.int .i64 c.q) := (cellAt' HC.out 6).trans rfl
      go_upto_region 6 with (first
        | ((with_reducible refine wpList_bdC (x0 := ?x0_2) (x1 := ?x1_2) (x3 := ?x3_2) (x4 := ?x4_2) (x7 := ?x7_2) 4 (k : Int) 9 c (16 * ((k : Int) + 1) + (k : Int)) ?bg_2 ?bo_2 ?be0_2 ?be1_2 ?be3_2 ?be4_2 ?be7_2 ?_); (case bg_2 => rfl); (case bo_2 => rfl); (case be0_2 => rfl); (case be1_2 => rfl); (case be3_2 => rfl); (case be4_2 => rfl); (case be7_2 => rfl))
        | ((with_reducible refine storeM (x := ?sx1) (y := ?sy1) (b := wr.heap.size) (mk0 c k) ?sg1 ?so1 ?sxx1 ?syy1 ?sc1 ?sh1); (case sg1 => rfl); (case so1 => rfl); (case sxx1 => rfl); (case syy1 => rfl); (case sc1 => exact roomZ wr); intro W1 hO hU; have HO1 : Hid (OM W1 wr.heap.size (mk0 c k)) := hid hO; have HD1 : Hid (Below wr.heap.size wr W1) := hid ((laid1_b wr zeroMc).trans (hU.below wr.heap.size (Nat.le_refl _))); clear hO hU)
        | fail)
      clear c0 c1 c2 c3 c4 c5 c6
      have HBw1 : Hid (Below w.heap.size w W1) := hid (HB.out.trans (HD1.out.mono HB.out.size))
      by_cases hkm : k < m
      · as_aux_lemma =>
          have hlmi : ((k : Int) < m) := by omega
          have HBW := hid (hb (by omega))
          obtain rfl := ha (by omega)
          obtain ⟨y, hy⟩ : ∃ y, ls[k]? = some y := ⟨ls[k]'(by rw [← HN.out]; exact hkm), List.getElem?_eq_getElem (by rw [← HN.out]; exact hkm)⟩
          have HY := hid hy
          have HRY : Hid (∀ W, Below w.heap.size w W → W.rangeAt b (o + k * 20) y.m.list) := hid (fun W hW => (HCC.out.on hW fun _ => HBW.out) k y.m (at_mgs hy))
          clear hy
          go_upto_region 8 with (first
            | ((with_reducible refine loadVl (x := ?vx3) (b := b) (o := (o + k * 20 + 18)) y.m.ft y.m.fp ?vg3 ?vo3 ?vxx3 ?vc3 ?_); (case vg3 => rfl); (case vo3 => rfl); (case vxx3 => rfl); (case vc3 => exact rngF (HRY.out _ HBw1.out)))
            | ((with_reducible refine storeMF (x := ?zx4) (y := ?zy4) (b := wr.heap.size) (mk0 c k) y.m.ft y.m.fp ?zg4 ?zo4 ?zxx4 ?zyy4 ?zc4 ?zh4); (case zg4 => rfl); (case zo4 => rfl); (case zxx4 => rfl); (case zyy4 => rfl); (case zc4 => exact HO1.out); intro W2 hO hU; have HO2 : Hid (OM W2 wr.heap.size ({ mk0 c k with ft := y.m.ft, fp := y.m.fp } : Mg)) := hid hO; have HD2 : Hid (Below wr.heap.size wr W2) := hid (HD1.out.trans (hU.below _ (Nat.le_refl _))); clear hO hU)
            | fail)
          have s0 : W2.cell? ⟨wr.heap.size, 15, none⟩ = some (.int .i64 0) := HO2.out.cell (m := ({ mk0 c k with ft := y.m.ft, fp := y.m.fp } : Mg)) (j := 15) rfl
          have s1 : W2.frozen? ⟨wr.heap.size, 15, none⟩ = false := HO2.out.free 15
          have HBxW2 : Hid (Below w.heap.size w W2) := hid (HB.out.trans (HD2.out.mono HB.out.size))
          have r0 : W2.cell? ⟨b, o + k * 20 + 15, none⟩ = some (.int .i64 y.m.ab) := HRY.out _ HBxW2.out 15 _ rfl
          go_upto_region 9 with fail
          obtain ⟨W3, hW⟩ : ∃ z, z = W2.setCell ⟨wr.heap.size, 15, none⟩ (.int .i64 y.m.ab) := ⟨_, rfl⟩
          rw [← hW]
          have HO3 : Hid (OM W3 wr.heap.size ({ mk0 c k with ft := y.m.ft, fp := y.m.fp, ab := y.m.ab } : Mg)) := hid (by rw [hW]; exact HO2.out.set rfl)
          have HD3 : Hid (Below wr.heap.size wr W3) := hid (by rw [hW]; exact HD2.out.grown (grownSet W2 _ _) HD2.out.size (fun q hq => by injection hq with hq; subst hq; exact Nat.le_refl _))
          clear hW s0 s1 r0
          have HBx3 : Hid (Below w.heap.size w W3) := hid (HB.out.trans (HD3.out.mono HB.out.size))
          go_upto_region 10 with (first
            | ((with_reducible refine loadVl (x := ?vx5) (b := b) (o := (o + k * 20 + 16)) y.m.xt y.m.xp ?vg5 ?vo5 ?vxx5 ?vc5 ?_); (case vg5 => rfl); (case vo5 => rfl); (case vxx5 => rfl); (case vc5 => exact rngA (HRY.out _ HBx3.out)))
            | ((with_reducible refine storeMA (x := ?zx6) (y := ?zy6) (b := wr.heap.size) ({ mk0 c k with ft := y.m.ft, fp := y.m.fp, ab := y.m.ab } : Mg) y.m.xt y.m.xp ?zg6 ?zo6 ?zxx6 ?zyy6 ?zc6 ?zh6); (case zg6 => rfl); (case zo6 => rfl); (case zxx6 => rfl); (case zyy6 => rfl); (case zc6 => exact HO3.out); intro W4 hO hU; have HO4 : Hid (OM W4 wr.heap.size ({ mk0 c k with ft := y.m.ft, fp := y.m.fp, ab := y.m.ab, xt := y.m.xt, xp := y.m.xp } : Mg)) := hid hO; have HD4 : Hid (Below wr.heap.size wr W4) := hid (HD3.out.trans (hU.below _ (Nat.le_refl _))); clear hO hU)
            | fail)
          have s0 : W4.cell? ⟨wr.heap.size, 13, none⟩ = some (.bool false) := HO4.out.cell (m := ({ mk0 c k with ft := y.m.ft, fp := y.m.fp, ab := y.m.ab, xt := y.m.xt, xp := y.m.xp } : Mg)) (j := 13) rfl
          have s1 : W4.frozen? ⟨wr.heap.size, 13, none⟩ = false := HO4.out.free 13
          have HBxW4 : Hid (Below w.heap.size w W4) := hid (HB.out.trans (HD4.out.mono HB.out.size))
          have r0 : W4.cell? ⟨b, o + k * 20 + 13, none⟩ = some (.bool y.m.fl) := HRY.out _ HBxW4.out 13 _ rfl
          go_upto_region 11 with fail
          obtain ⟨W5, hW⟩ : ∃ z, z = W4.setCell ⟨wr.heap.size, 13, none⟩ (.bool y.m.fl) := ⟨_, rfl⟩
          rw [← hW]
          have HO5 : Hid (OM W5 wr.heap.size ({ mk0 c k with ft := y.m.ft, fp := y.m.fp, ab := y.m.ab, xt := y.m.xt, xp := y.m.xp, fl := y.m.fl } : Mg)) := hid (by rw [hW]; exact HO4.out.set rfl)
          have HD5 : Hid (Below wr.heap.size wr W5) := hid (by rw [hW]; exact HD4.out.grown (grownSet W4 _ _) HD4.out.size (fun q hq => by injection hq with hq; subst hq; exact Nat.le_refl _))
          clear hW s0 s1 r0
          have HOW : Hid (OM W5 wr.heap.size (mkA ls c k).m) := hid (by unfold mkA; rw [HY.out]; exact HO5.out)
          have HDW := hid HD5.out
          obtain ⟨rm, hrm⟩ : ∃ z, z = rightM (mkA ls c k) := ⟨_, rfl⟩
          have HRM := hid hrm
          have HBW5 : Hid (Below w.heap.size w W5) := hid (HB.out.trans (HDW.out.mono HB.out.size))
          have HCR : Hid (Calls Try.prog 30 #[.agg (mkA ls c k).m.arr] W5 fun e w' => e = .returned (.bool rm) ∧ Below W5.heap.size W5 w') := hid (by rw [hrm]; exact rRightM (mkA_at fun x hx => (HA.out x hx).on HBW5.out) (mkA_short HSH.out))
          clear hrm
          obtain ⟨mm, hmm⟩ : ∃ z, z = (mkA ls c k).m := ⟨_, rfl⟩
          rw [← hmm] at HCR HOW
          have HMM := hid hmm
          clear hmm
          have tk1 : Hid (0 = 0) := hid rfl
          have tk2 : Hid (0 = 0) := hid rfl
          have tk3 : Hid (0 = 0) := hid rfl
          have tk4 : Hid (0 = 0) := hid rfl
          rcases rm with _ | _
          · as_aux_lemma =>
              go_wp2_with (first
                | (clear tk1; ((with_reducible refine loadM (x := ?lx7) (b := wr.heap.size) mm ?lg7 ?lo7 ?lxx7 ?lc7 ?lh7); (case lg7 => rfl); (case lo7 => rfl); (case lxx7 => rfl); (case lc7 => exact HOW.out)))
                | (clear tk2; go_at_call 30; refine HCR.out.mono ?_; rintro e w6 ⟨rfl, hB⟩; have HD6 : Hid (Below wr.heap.size wr w6) := hid (HDW.out.trans (hB.mono HDW.out.size)); have HO6 : Hid (OM w6 wr.heap.size mm) := hid (heapB HOW.out hB (Array.getElem?_eq_some_iff.1 HOW.out).1); clear hB)
                | fail)
              go_ret2
              exact ⟨.inl rfl, HB.out.trans (HD6.out.mono HB.out.size)⟩
          · as_aux_lemma =>
              go_wp2_with (first
                | (clear tk1; ((with_reducible refine loadM (x := ?lx9) (b := wr.heap.size) mm ?lg9 ?lo9 ?lxx9 ?lc9 ?lh9); (case lg9 => rfl); (case lo9 => rfl); (case lxx9 => rfl); (case lc9 => exact HOW.out)))
                | (clear tk2; go_at_call 30; refine HCR.out.mono ?_; rintro e w6 ⟨rfl, hB⟩; have HD6 : Hid (Below wr.heap.size wr w6) := hid (HDW.out.trans (hB.mono HDW.out.size)); have HO6 : Hid (OM w6 wr.heap.size mm) := hid (heapB HOW.out hB (Array.getElem?_eq_some_iff.1 HOW.out).1); clear hB)
                | ((with_reducible refine loadM (x := ?lx10) (b := wr.heap.size) mm ?lg10 ?lo10 ?lxx10 ?lc10 ?lh10); (case lg10 => rfl); (case lo10 => rfl); (case lxx10 => rfl); (case lc10 => exact HO6.out))
                | (clear tk3; (with_reducible refine wpList_bsM (x := ?ux8) mm ?ug8 ?uo8 ?ue8 ?uh8); (case ug8 => rfl); (case uo8 => rfl); (case ue8 => rfl); intro W7 hO hB hW; have HO7 : Hid (OM W7 w6.heap.size mm) := hid hO; have HB7 : Hid (Below wr.heap.size wr W7) := hid (HD6.out.trans (hB.mono HD6.out.size)); have HG7 := hid (OwnG.on HO.out HB7.out); clear hO hB hW)
                | (clear tk4; at_builtin; refine wpList_append_ms rfl _ _ rfl (w.heap.size + 1) _ (mgs (allA ls c k)) rfl HG7.out _ [mm] rfl (OM.sl (m := mm) HO7.out 1) (fun h => absurd h (by simp)) (by show (mgs (allA ls c k)).length + 1 ≤ 1000000; unfold mgs; rw [List.length_map, allA_len]; omega) (Nat.le_trans HSZ.out HB7.out.size) ?_; intro v8 w8 ho8 hg8; obtain ⟨g8, c8, n8, rfl, hn8⟩ := OwnG.asSlice ho8; have HO8 := hid ho8; have HD8 := hid (((HB1.out.trans (HB7.out.mono HSZ.out))).grown hg8 (Nat.le_trans HSZ.out HB7.out.size) (fun q hq => (HG7.out.lt q hq).1)); clear ho8 hg8 hn8)
                | fail)
              go_roundw
              case rel => exact ⟨k + 1, g8, n8, c8, by omega, by go_num, rfl, hid (by have := HO8.out; rw [allA_next]; unfold mgs at this ⊢; rw [List.map_append]; rw [HMM.out] at this; exact this), hid (fun x hx => by rw [allA_next] at hx; rcases List.mem_append.1 hx with hx | hx; exact HAR.out x hx; simp at hx; subst hx; exact HRM.out.symm), hid (by have := HD8.out; simpa using this)⟩
              case measure => first | omega | (simp [RowKit.intOf]; omega)
      · as_aux_lemma =>
          have hlmi : ¬ ((k : Int) < m) := by omega
          have HNO : Hid (ls[k]? = none) := hid (by rw [List.getElem?_eq_none_iff, ← HN.out]; omega)
          have HOW : Hid (OM W1 wr.heap.size (mkA ls c k).m) := hid (by unfold mkA; rw [HNO.out]; exact HO1.out)
          have HDW := hid HD1.out
          obtain ⟨rm, hrm⟩ : ∃ z, z = rightM (mkA ls c k) := ⟨_, rfl⟩
          have HRM := hid hrm
          have HBW5 : Hid (Below w.heap.size w W1) := hid (HB.out.trans (HDW.out.mono HB.out.size))
          have HCR : Hid (Calls Try.prog 30 #[.agg (mkA ls c k).m.arr] W1 fun e w' => e = .returned (.bool rm) ∧ Below W1.heap.size W1 w') := hid (by rw [hrm]; exact rRightM (mkA_at fun x hx => (HA.out x hx).on HBW5.out) (mkA_short HSH.out))
          clear hrm
          obtain ⟨mm, hmm⟩ : ∃ z, z = (mkA ls c k).m := ⟨_, rfl⟩
          rw [← hmm] at HCR HOW
          have HMM := hid hmm
          clear hmm
          have tk1 : Hid (0 = 0) := hid rfl
          have tk2 : Hid (0 = 0) := hid rfl
          have tk3 : Hid (0 = 0) := hid rfl
          have tk4 : Hid (0 = 0) := hid rfl
          rcases rm with _ | _
          · as_aux_lemma =>
              go_wp2_with (first
                | (clear tk1; ((with_reducible refine loadM (x := ?lx11) (b := wr.heap.size) mm ?lg11 ?lo11 ?lxx11 ?lc11 ?lh11); (case lg11 => rfl); (case lo11 => rfl); (case lxx11 => rfl); (case lc11 => exact HOW.out)))
                | (clear tk2; go_at_call 30; refine HCR.out.mono ?_; rintro e w6 ⟨rfl, hB⟩; have HD6 : Hid (Below wr.heap.size wr w6) := hid (HDW.out.trans (hB.mono HDW.out.size)); have HO6 : Hid (OM w6 wr.heap.size mm) := hid (heapB HOW.out hB (Array.getElem?_eq_some_iff.1 HOW.out).1); clear hB)
                | fail)
              go_ret2
              exact ⟨.inl rfl, HB.out.trans (HD6.out.mono HB.out.size)⟩
          · as_aux_lemma =>
              go_wp2_with (first
                | (clear tk1; ((with_reducible refine loadM (x := ?lx13) (b := wr.heap.size) mm ?lg13 ?lo13 ?lxx13 ?lc13 ?lh13); (case lg13 => rfl); (case lo13 => rfl); (case lxx13 => rfl); (case lc13 => exact HOW.out)))
                | (clear tk2; go_at_call 30; refine HCR.out.mono ?_; rintro e w6 ⟨rfl, hB⟩; have HD6 : Hid (Below wr.heap.size wr w6) := hid (HDW.out.trans (hB.mono HDW.out.size)); have HO6 : Hid (OM w6 wr.heap.size mm) := hid (heapB HOW.out hB (Array.getElem?_eq_some_iff.1 HOW.out).1); clear hB)
                | ((with_reducible refine loadM (x := ?lx14) (b := wr.heap.size) mm ?lg14 ?lo14 ?lxx14 ?lc14 ?lh14); (case lg14 => rfl); (case lo14 => rfl); (case lxx14 => rfl); (case lc14 => exact HO6.out))
                | (clear tk3; (with_reducible refine wpList_bsM (x := ?ux12) mm ?ug12 ?uo12 ?ue12 ?uh12); (case ug12 => rfl); (case uo12 => rfl); (case ue12 => rfl); intro W7 hO hB hW; have HO7 : Hid (OM W7 w6.heap.size mm) := hid hO; have HB7 : Hid (Below wr.heap.size wr W7) := hid (HD6.out.trans (hB.mono HD6.out.size)); have HG7 := hid (OwnG.on HO.out HB7.out); clear hO hB hW)
                | (clear tk4; at_builtin; refine wpList_append_ms rfl _ _ rfl (w.heap.size + 1) _ (mgs (allA ls c k)) rfl HG7.out _ [mm] rfl (OM.sl (m := mm) HO7.out 1) (fun h => absurd h (by simp)) (by show (mgs (allA ls c k)).length + 1 ≤ 1000000; unfold mgs; rw [List.length_map, allA_len]; omega) (Nat.le_trans HSZ.out HB7.out.size) ?_; intro v8 w8 ho8 hg8; obtain ⟨g8, c8, n8, rfl, hn8⟩ := OwnG.asSlice ho8; have HO8 := hid ho8; have HD8 := hid (((HB1.out.trans (HB7.out.mono HSZ.out))).grown hg8 (Nat.le_trans HSZ.out HB7.out.size) (fun q hq => (HG7.out.lt q hq).1)); clear ho8 hg8 hn8)
                | fail)
              go_roundw
              case rel => exact ⟨k + 1, g8, n8, c8, by omega, by go_num, rfl, hid (by have := HO8.out; rw [allA_next]; unfold mgs at this ⊢; rw [List.map_append]; rw [HMM.out] at this; exact this), hid (fun x hx => by rw [allA_next] at hx; rcases List.mem_append.1 hx with hx | hx; exact HAR.out x hx; simp at hx; subst hx; exact HRM.out.symm), hid (by have := HD8.out; simpa using this)⟩
              case measure => first | omega | (simp [RowKit.intOf]; omega)
    · have hlti : ¬ ((k : Int) < n) := by omega
      have HKN : Hid (k = n) := hid (by omega)
      go_wp2_with fail
      go_ret2
      exact ⟨.inr ⟨g, gn, gc, rfl, by have := HO.out; rw [HKN.out] at this; exact OwnG.mono this (Nat.le_succ _), by have := HAR.out; rwa [HKN.out] at this⟩, HB.out⟩
end Go.Proofs.Ytbcmhnaiabifjaa
