import Derived.Test.YtplodoindppleaaGreatLAtZm
namespace Go.Proofs.YtplodoindppleaaGreat
set_option linter.unusedVariables false
open Go.RowKit
open Go.Lib (hid)
abbrev c17 : C7 := ⟨17, 1, 0, 16, 0, 0, 0⟩
abbrev mO (f : Int) : Mg := { zM with so := 1, fr := f, tt := 1, c := c17, vt := 33, fl := true }
abbrev msO (f : Int) : Ms := ⟨mO f, [], [], []⟩
def lv0 : Lst := fun _ => none
def lv1 : Lst × List An := startF 1 3 lv0 c17 33 []
def lv2 : Lst × List An := handF 1 3 lv1.1 (msO 0).an
def lv3 : Lst × List An := handF 1 3 lv2.1 (msO 1).an
def lv4 : Lst × List An := handF 1 3 lv3.1 (msO 2).an
set_option maxRecDepth 100000 in
theorem lv1_is : lv1.2.length = 3 ∧ (lv1.2[2]?).map An.so = some 0 := by decide
set_option maxRecDepth 100000 in
theorem lv2_is : lv2.2.length = 0 := by decide
set_option maxRecDepth 100000 in
theorem lv4_is : lv4.2.length = 3 ∧ (lv4.2[0]?).map (fun x => (x.so, x.vt)) = some (7, 33) ∧ (lv4.1 17).isNone = true := by decide
theorem lvI1 : InvL 1 3 ([] ++ lv1.2) [(msO 0).an, (msO 1).an, (msO 2).an] lv1.1 := (start_P (E := fun _ => True) (by decide) (fun i a h => by cases h) c17 33 []).inv
theorem lvI2 : InvL 1 3 ([] ++ lv1.2 ++ lv2.2) [(msO 0).an, (msO 1).an, (msO 2).an] lv2.1 := (hand_P (by decide) lvI1 (m := (msO 0).an) ⟨by decide, by decide, by decide⟩ (by simp)).inv
theorem lvI3 : InvL 1 3 ([] ++ lv1.2 ++ lv2.2 ++ lv3.2) [(msO 0).an, (msO 1).an, (msO 2).an] lv3.1 := (hand_P (by decide) lvI2 (m := (msO 1).an) ⟨by decide, by decide, by decide⟩ (by simp)).inv
set_option maxRecDepth 100000 in
theorem run_bldO (w : World) : (Instr.build 48 #[(0, .int .i64 1), (2, .int .i64 1), (4, .agg #[.int .i64 17, .int .i64 1, .int .i64 0, .int .i64 16, .int .i64 0, .int .i64 0, .int .i64 0]), (5, .agg #[.int .i64 33, .slice none 0 0]), (6, .bool true)]).run Tryz.prog w = .ok (.agg (mO 0).arr) w := by kernel_rfl
theorem wpList_bldO {ops : Array Oper} {rest : List Oper} {op : Oper} {a : Act} {w : World} {Q : Exit → Act → World → Prop} {x y : Operand} (hgd : op.guard = none) (ho : op.op = .build 48 #[(0, .const (.int .i64 1)), (2, .const (.int .i64 1)), (4, x), (5, y), (6, .const (.bool true))])
 (h1 : a.eval x = .agg #[.int .i64 17, .int .i64 1, .int .i64 0, .int .i64 16, .int .i64 0, .int .i64 0, .int .i64 0]) (h2 : a.eval y = .agg #[.int .i64 33, .slice none 0 0]) (h : wpList Tryz.prog ops Q rest (a.put op.dst (.agg (mO 0).arr)) w) : wpList Tryz.prog ops Q (op :: rest) a w := by
 refine wpList_plain hgd fun _ hK' => ?_
 unfold Oper.wp execOp
 have hb := run_bldO w
 have hc : a.eval (.const (.int .i64 1)) = .int .i64 1 := rfl
 have hc2 : a.eval (.const (.bool true)) = .bool true := rfl
 simp only [ho, List.map_toArray, List.map_cons, List.map_nil, h1, h2, hc, hc2, Sem.run_bind]
 rw [hb]
 simp only [Result.andThen_ok]
 exact hK' _ _ h
theorem mO_set (f g : Int) : (mO f).arr.setIfInBounds 1 (.int .i64 g) = (mO g).arr := rfl
theorem out_len {B : Nat} {w : World} {v : Value} {ls : List Ms} {l : List An} (h : OutM B w v ls) (ha : ls.map Ms.an = l) {n : Nat} (hn : l.length = n) : ∃ a cap, v = .slice a n cap ∧ (0 < n → ∃ b o, a = some ⟨b, o, none⟩ ∧ b < w.heap.size ∧ ∀ j x, ls[j]? = some x → w.rangeAt b (o + j * 20) x.m.list) := by
 have hl : ls.length = n := by rw [← hn, ← ha, List.length_map]
 obtain ⟨b, o, cap, a, rfl, hp, hr, hb⟩ := h.1
 have hm : (mgs ls).length = n := by unfold mgs; rw [List.length_map, hl]
 refine ⟨a, cap, by rw [hm], fun h0 => ?_⟩
 exact ⟨b, o, hp (by omega), hb (by omega), fun j x hx => hr j x.m (by unfold mgs; rw [List.getElem?_map, hx]; rfl)⟩
structure Al (W : World) (B q b n : Nat) (g : Gs) (lst : Lst) (p : Nat) (f : Int) (ba oa : Nat) : Prop where
 ld : Ld W B q b n 1 3 g
 gl : g.lst = lst
 om : OM W p (mO f)
 nt : ¬ TL b g p
 pb : B ≤ p ∧ p ≠ q
 ca : W.cell? ⟨ba, oa, none⟩ = some (.int .i64 0)
 na : ¬ TL b g ba ∧ ba ≠ p ∧ ba < W.heap.size
 hb : B ≤ W.heap.size
theorem Al.hand {W : World} {B q b n : Nat} {g : Gs} {lst : Lst} {p : Nat} {f : Int} {ba oa : Nat} (h : Al W B q b n g lst p f ba oa) {sent got : List An} (hI : InvL 1 3 sent got lst) (hn : n < 1000) : Calls Tryz.prog 13 #[ptr q, .agg (mO f).arr] W fun e W' => ∃ g' v ls, e = .returned v ∧ OutM W.heap.size W' v ls ∧ ls.map Ms.an = (handF 1 3 lst (msO f).an).2 ∧ Al W' B q b (n + 1) g' (handF 1 3 lst (msO f).an).1 p f ba oa ∧ Below B W W' := by
 have hz := szOf h.ld (by rw [h.gl]; exact hI) (by decide)
 refine (cHandle (m := msO f) h.ld (by decide) h.hb (by omega) hz ⟨(SetD.nil W).setC, (SetD.nil W).setC, (SetD.nil W).setC⟩ ⟨Nat.zero_le _, Nat.zero_le _, Nat.zero_le _⟩ (by show (Lit.int .i64 17).wf = true; decide)).mono ?_
 rintro e w' ⟨g', v, ls, rfl, h2, h3, h4, h5, h6, h7, h8⟩
 rw [h.gl] at h3 h5
 have hps := (Array.getElem?_eq_some_iff.1 h.om).1
 refine ⟨g', v, ls, rfl, h2, h3, ⟨h4, h5, (h6.block p hps h.nt).trans h.om, fun hk => ?_, h.pb, ?_, ⟨fun hk => ?_, h.na.2.1, Nat.lt_of_lt_of_le h.na.2.2 h6.size⟩, Nat.le_trans h.hb h6.size⟩, h6.below (fun k hk => (h.ld.no k hk).1) h.hb⟩
 · rcases h7 p hk with hk | hk
   · exact h.nt hk
   · omega
 · rw [cell_of_heap (h6.block ba h.na.2.2 h.na.1)]; exact h.ca
 · rcases h7 ba hk with hk | hk
   · exact h.na.1 hk
   · have := h.na.2.2; omega
theorem Al.set {W : World} {B q b n : Nat} {g : Gs} {lst : Lst} {p : Nat} {f f' : Int} {ba oa : Nat} (h : Al W B q b n g lst p f ba oa) : Al (W.setCell ⟨p, 1, none⟩ (.int .i64 f')) B q b n g lst p f' ba oa := by
 have ht : Tch (fun k => k = p) W (W.setCell ⟨p, 1, none⟩ (.int .i64 f')) := Tch.ofGrown (grownSet W ⟨p, 1, none⟩ (.int .i64 f')) fun k e => (Option.some.inj e).symm
 have hO : OM W p (mO f) := h.om
 refine ⟨h.ld.tch ht (fun e => h.pb.2 e.symm) (fun k e => ?_) (fun k hk e => h.nt (e ▸ hk)), h.gl, h.om.set (mO_set f f'), h.nt, h.pb, ?_, ⟨h.na.1, h.na.2.1, Nat.lt_of_lt_of_le h.na.2.2 ht.size⟩, Nat.le_trans h.hb ht.size⟩
 · subst e
   refine ⟨h.pb.1, fun cur fz e => ?_⟩
   rw [show W.heap[k]? = _ from hO] at e
   injection e with e; injection e with _ e; exact absurd e (by decide)
 · rw [cell_of_heap (ht.block ba h.na.2.2 (fun e => h.na.2.1 e))]; exact h.ca
theorem gs_none {g : Gs} {i : Int} (h : (g.lst i).isNone = true) : g i = none := by
 unfold Gs.lst at h
 rcases hg : g i with _ | z
 · rfl
 · rw [hg] at h; cases h
set_option maxHeartbeats 16000000 in
set_option maxRecDepth 100000 in
theorem cAliveL (w : World) : Calls Tryz.prog 6 #[] w fun e w' => e = .returned (.bool true) ∧ Below w.heap.size w w' := by
 go_enter Tryz.func6, Tryz.ntmps6
 go_wp2_with fail
 go_at_call 7
 refine (cNewL 1 3 w (by decide)).mono ?_
 rintro e w1 ⟨q, rfl, hq, hB1, b, hL⟩
 have HB1 := hid hB1
 have HL1 := hid hL
 clear hB1 hL
 go_wp2_with fail
 have HC2 : Hid (((w1.alloc (.cells #[.int .i64 17, .int .i64 1, .int .i64 0, .int .i64 16, .int .i64 0, .int .i64 0, .int .i64 0] 42)).alloc (.cells #[.int .i64 33, .slice none 0 0] 34)).heap[w1.heap.size]? = some (.cells #[.int .i64 17, .int .i64 1, .int .i64 0, .int .i64 16, .int .i64 0, .int .i64 0, .int .i64 0] 42 (0, 0))) := hid (laid2_0 w1 _ _)
 have HV2 : Hid (((w1.alloc (.cells #[.int .i64 17, .int .i64 1, .int .i64 0, .int .i64 16, .int .i64 0, .int .i64 0, .int .i64 0] 42)).alloc (.cells #[.int .i64 33, .slice none 0 0] 34)).heap[w1.heap.size + 1]? = some (.cells #[.int .i64 33, .slice none 0 0] 34 (0, 0))) := hid (laid2_1 w1 _ _)
 have HB2 : Hid (Below w1.heap.size w1 ((w1.alloc (.cells #[.int .i64 17, .int .i64 1, .int .i64 0, .int .i64 16, .int .i64 0, .int .i64 0, .int .i64 0] 42)).alloc (.cells #[.int .i64 33, .slice none 0 0] 34))) := hid (laid2_b w1 _ _)
 have HZ2 : Hid (((w1.alloc (.cells #[.int .i64 17, .int .i64 1, .int .i64 0, .int .i64 16, .int .i64 0, .int .i64 0, .int .i64 0] 42)).alloc (.cells #[.int .i64 33, .slice none 0 0] 34)).heap.size = w1.heap.size + 2) := hid (by simp)
 generalize ((w1.alloc (.cells #[.int .i64 17, .int .i64 1, .int .i64 0, .int .i64 16, .int .i64 0, .int .i64 0, .int .i64 0] 42)).alloc (.cells #[.int .i64 33, .slice none 0 0] 34)) = W2 at HC2 HV2 HB2 HZ2 ⊢
 have HL2 := hid (HL1.out.on HB2.out)
 go_at_call 10
 refine (cStart HL2.out (by decide) (Nat.le_trans HB1.out.size HB2.out.size) (by decide) (c := c17) (by decide) (vt := 33) (vp := zS) (vl := []) (SetD.nil W2).1 (Nat.zero_le _)).mono ?_
 rintro e w3 ⟨g2, va, lsa, rfl, h2, h3, h4, h5, h6, h7, h8⟩
 obtain ⟨aa, capa, rfl, hpa⟩ := out_len h2 h3 lv1_is.1
 obtain ⟨ba, oa, rfl, hba, hra⟩ := hpa (by decide)
 have hza : w3.cell? ⟨ba, oa + 40, none⟩ = some (.int .i64 0) := by
  have hh := lv1_is.2
  rw [← (show lsa.map Ms.an = lv1.2 from h3), List.getElem?_map] at hh
  rcases hx : lsa[2]? with _ | x
  · rw [hx] at hh; cases hh
  · rw [hx] at hh
    have hs : x.m.so = 0 := Option.some.inj hh
    have := hra 2 x hx 0 _ rfl
    rw [show x.m.so = 0 from hs] at this
    exact this
 have HG2 : Hid (∀ k, TL b g2 k → k ≠ w1.heap.size ∧ k ≠ w1.heap.size + 1) := hid (fun k hk => by
  rcases h7 k hk with hk | hk
  · have := HL1.out.lt k hk; omega
  · have := HZ2.out; omega)
 have HN0 : Hid (∀ k, k = w1.heap.size ∨ k = w1.heap.size + 1 → ¬ TL b (fun _ => none) k) := hid (fun k hk hT => by have := HL1.out.lt k hT; omega)
 have HC3 : Hid (w3.heap[w1.heap.size]? = some (.cells #[.int .i64 17, .int .i64 1, .int .i64 0, .int .i64 16, .int .i64 0, .int .i64 0, .int .i64 0] 42 (0, 0))) := hid ((h6.block _ (by have := HZ2.out; omega) (HN0.out _ (.inl rfl))).trans HC2.out)
 have HV3 : Hid (w3.heap[w1.heap.size + 1]? = some (.cells #[.int .i64 33, .slice none 0 0] 34 (0, 0))) := hid ((h6.block _ (by have := HZ2.out; omega) (HN0.out _ (.inr rfl))).trans HV2.out)
 have HL3 := hid h4
 have HGL := hid (show g2.lst = lv1.1 from h5)
 have HZA := hid hza
 have HBA := hid (And.intro (h8 ba rfl) hba)
 have HBw3 : Hid (Below w.heap.size w w3) := hid ((HB1.out.trans (HB2.out.mono HB1.out.size)).trans (h6.below (fun k hk => (HL2.out.no k hk).1) (Nat.le_trans HB1.out.size HB2.out.size)))
 have HQ3 := hid (show q < w3.heap.size from (Array.getElem?_eq_some_iff.1 h4.lq.ob).1)
 clear h2 h3 h4 h5 h6 h7 h8 hpa hba hra hza
 have c0 : w3.cell? ⟨w1.heap.size, 0, none⟩ = some (.int .i64 17) := (cellAt' HC3.out 0).trans rfl
 have c1 : w3.cell? ⟨w1.heap.size, 1, none⟩ = some (.int .i64 1) := (cellAt' HC3.out 1).trans rfl
 have c2 : w3.cell? ⟨w1.heap.size, 2, none⟩ = some (.int .i64 0) := (cellAt' HC3.out 2).trans rfl
 have c3 : w3.cell? ⟨w1.heap.size, 3, none⟩ = some (.int .i64 16) := (cellAt' HC3.out 3).trans rfl
 have c4 : w3.cell? ⟨w1.heap.size, 4, none⟩ = some (.int .i64 0) := (cellAt' HC3.out 4).trans rfl
 have c5 : w3.cell? ⟨w1.heap.size, 5, none⟩ = some (.int .i64 0) := (cellAt' HC3.out 5).trans rfl
 have c6 : w3.cell? ⟨w1.heap.size, 6, none⟩ = some (.int .i64 0) := (cellAt' HC3.out 6).trans rfl
 have v0 : w3.cell? ⟨w1.heap.size + 1, 0, none⟩ = some (.int .i64 33) := (cellAt' HV3.out 0).trans rfl
 have v1 : w3.cell? ⟨w1.heap.size + 1, 1, none⟩ = some (.slice none 0 0) := (cellAt' HV3.out 1).trans rfl
 go_upto_region 6 with (first
  | ((with_reducible refine wpList_bldO (x := ?bx1) (y := ?by1) ?bg1 ?bo1 ?be1 ?bf1 ?_); (case bg1 => rfl); (case bo1 => rfl); (case be1 => rfl); (case bf1 => rfl))
  | ((with_reducible refine storeM (x := ?sx2) (y := ?sy2) (b := w3.heap.size) (mO 0) ?sg2 ?so2 ?sxx2 ?syy2 ?sc2 ?sh2); (case sg2 => rfl); (case so2 => rfl); (case sxx2 => rfl); (case syy2 => rfl); (case sc2 => exact roomZ _); intro W4 hO hU; have HA4 : Hid (OM W4 w3.heap.size (mO 0)) := hid hO; have HB4 : Hid (Below w3.heap.size w3 W4) := hid ((laid1_b w3 zeroMc).trans (hU.below w3.heap.size (Nat.le_refl _))); clear hO hU)
  | fail)
 have HAL : Hid (Al W4 w.heap.size q b 1 g2 lv1.1 w3.heap.size 0 ba (oa + 40)) := hid ⟨HL3.out.on HB4.out, HGL.out, HA4.out, fun hk => Nat.lt_irrefl _ (HL3.out.lt _ hk), ⟨HBw3.out.size, fun e => by have := HQ3.out; omega⟩, (HB4.out.cell (p := ⟨ba, oa + 40, none⟩) HBA.out.2).trans HZA.out, ⟨HBA.out.1, fun e => by have := HBA.out.2; omega, Nat.lt_of_lt_of_le HBA.out.2 HB4.out.size⟩, Nat.le_trans HBw3.out.size HB4.out.size⟩
 have HBw4 : Hid (Below w.heap.size w W4) := hid (HBw3.out.trans (HB4.out.mono HBw3.out.size))
 clear c0 c1 c2 c3 c4 c5 c6 v0 v1
 obtain ⟨p6, hp6⟩ : ∃ z, z = w3.heap.size := ⟨_, rfl⟩
 rw [← hp6] at HAL HA4 ⊢
 obtain ⟨oA, hoA⟩ : ∃ z, z = oa + 40 := ⟨_, rfl⟩
 rw [← hoA] at HAL
 have HOA := hid hoA
 clear hp6 hoA HA4 HB4 HL3 HGL HZA HBA HC3 HV3 HC2 HV2 HG2 HN0
 go_upto_region 7 with (first
  | ((with_reducible refine loadM (x := ?lx3) (b := p6) (mO 0) ?lg3 ?lo3 ?lxx3 ?lc3 ?lh3); (case lg3 => rfl); (case lo3 => rfl); (case lxx3 => rfl); (case lc3 => exact HAL.out.om))
  | (go_at_call 13; refine (HAL.out.hand lvI1 (by decide)).mono ?_; rintro e W5 ⟨g3, v7, l7, rfl, h1, h2, h3, h4⟩; obtain ⟨a7, cap7, rfl, hp7⟩ := out_len h1 h2 lv2_is; have HO7 := hid (And.intro h1 h2); have HP7 := hid hp7; have HW5 := hid h3; have HBw5 := hid (HBw4.out.trans h4); clear h1 h2 h3 h4 hp7)
  | fail)
 have b0 : W5.cell? ⟨p6, 1, none⟩ = some (.int .i64 0) := OM.cell (m := mO 0) (j := 1) HW5.out.om rfl
 have b1 : W5.frozen? ⟨p6, 1, none⟩ = false := HW5.out.om.free 1
 go_upto_region 8 with fail
 obtain ⟨W6, hW⟩ : ∃ z, z = W5.setCell ⟨p6, 1, none⟩ (.int .i64 1) := ⟨_, rfl⟩
 rw [← hW]
 have HW6 := hid (HW5.out.set (f' := 1))
 have HBw6 : Hid (Below w.heap.size w W6) := hid (by rw [hW]; exact HBw5.out.grown (grownSet W5 ⟨p6, 1, none⟩ (.int .i64 1)) HBw5.out.size (fun k hk => by injection hk with hk; subst hk; exact HW5.out.pb.1))
 rw [← hW] at HW6
 clear hW b0 b1
 go_upto_region 9 with (first
  | ((with_reducible refine loadM (x := ?lx4) (b := p6) (mO 1) ?lg4 ?lo4 ?lxx4 ?lc4 ?lh4); (case lg4 => rfl); (case lo4 => rfl); (case lxx4 => rfl); (case lc4 => exact HW6.out.om))
  | (go_at_call 13; refine (HW6.out.hand lvI2 (by decide)).mono ?_; rintro e W7 ⟨g4, v9, l9, rfl, h1, h2, h3, h4⟩; obtain ⟨a9, cap9, rfl, hp9⟩ := out_len h1 h2 (n := lv3.2.length) rfl; have HO9 := hid (And.intro h1 h2); have HP9 := hid hp9; have HW7 := hid h3; have HBw7 := hid (HBw6.out.trans h4); clear h1 h2 h3 h4 hp9)
  | fail)
 clear HO7 HP7 HO9 HP9 HW5 HW6
 have b0 : W7.cell? ⟨p6, 1, none⟩ = some (.int .i64 1) := OM.cell (m := mO 1) (j := 1) HW7.out.om rfl
 have b1 : W7.frozen? ⟨p6, 1, none⟩ = false := HW7.out.om.free 1
 go_upto_region 10 with fail
 obtain ⟨W8, hW⟩ : ∃ z, z = W7.setCell ⟨p6, 1, none⟩ (.int .i64 2) := ⟨_, rfl⟩
 rw [← hW]
 have HW8 := hid (HW7.out.set (f' := 2))
 have HBw8 : Hid (Below w.heap.size w W8) := hid (by rw [hW]; exact HBw7.out.grown (grownSet W7 ⟨p6, 1, none⟩ (.int .i64 2)) HBw7.out.size (fun k hk => by injection hk with hk; subst hk; exact HW7.out.pb.1))
 rw [← hW] at HW8
 clear hW b0 b1
 clear HW7
 go_upto_region 11 with (first
  | ((with_reducible refine loadM (x := ?lx5) (b := p6) (mO 2) ?lg5 ?lo5 ?lxx5 ?lc5 ?lh5); (case lg5 => rfl); (case lo5 => rfl); (case lxx5 => rfl); (case lc5 => exact HW8.out.om))
  | (go_at_call 13; refine (HW8.out.hand lvI3 (by decide)).mono ?_; rintro e W9 ⟨g5, v11, l11, rfl, h1, h2, h3, h4⟩; obtain ⟨a11, cap11, rfl, hp11⟩ := out_len h1 h2 lv4_is.1; have HO11 := hid (And.intro h1 h2); have HP11 := hid hp11; have HW9 := hid h3; have HBw9 := hid (HBw8.out.trans h4); clear h1 h2 h3 h4 hp11)
  | fail)
 have hg0 : g5 17 = none := gs_none (by rw [HW9.out.gl]; exact lv4_is.2.2)
 have HAT := hid (cAtL_no HW9.out.ld (i := 17) (by decide) hg0)
 clear hg0 HW8
 obtain ⟨bd, od, rfl, hbd, hrd⟩ := HP11.out (by decide)
 obtain ⟨x, hx, hxs⟩ : ∃ x, l11[0]? = some x ∧ (x.m.so = 7 ∧ x.m.vt = 33) := by
  have hh := lv4_is.2.1
  rw [← (show l11.map Ms.an = lv4.2 from HO11.out.2), List.getElem?_map] at hh
  rcases hx : l11[0]? with _ | x
  · rw [hx] at hh; cases hh
  · rw [hx] at hh
    have h9 := Option.some.inj hh
    exact ⟨x, rfl, congrArg Prod.fst h9, congrArg Prod.snd h9⟩
 have hr0 := hrd 0 x hx
 have HR0 := hid hr0
 have HXS := hid hxs
 have HBD := hid hbd
 clear hr0 hrd hx hxs hbd HO11 HP11
 go_upto_region 12 with (first
  | (go_at_call 9; refine HAT.out.mono ?_; rintro e W10 ⟨rfl, hb⟩; have HBa := hid hb; clear hb)
  | fail)
 obtain ⟨W11, hW⟩ : ∃ z, z = W10.alloc (.cells #[.int .i64 0, .slice none 0 0] 34) := ⟨_, rfl⟩
 rw [← hW]
 have HB11 : Hid (Below W9.heap.size W9 W11) := hid (by rw [hW]; exact HBa.out.trans ((laid1_b W10 _).mono HBa.out.size))
 clear hW HBa
 have k0 : W11.cell? ⟨ba, oa + 40, none⟩ = some (.int .i64 0) := by rw [← HOA.out]; exact (HB11.out.cell (p := ⟨ba, oA, none⟩) HW9.out.na.2.2).trans HW9.out.ca
 have k1 : W11.cell? ⟨bd, od, none⟩ = some (.int .i64 7) := by
  have h := HR0.out 0 _ rfl
  rw [show x.m.so = 7 from HXS.out.1] at h
  rw [show od + 0 * 20 + 0 = od by omega] at h
  exact (HB11.out.cell (p := ⟨bd, od, none⟩) HBD.out).trans h
 have k2 : W11.cell? ⟨bd, od + 11, none⟩ = some (.int .i64 33) := by
  have h := HR0.out 11 _ rfl
  rw [show x.m.vt = 33 from HXS.out.2] at h
  rw [show od + 0 * 20 + 11 = od + 11 by omega] at h
  exact (HB11.out.cell (p := ⟨bd, od + 11, none⟩) HBD.out).trans h
 go_wp2_with fail
 go_ret
 exact ⟨rfl, HBw9.out.trans (HB11.out.mono HBw9.out.size)⟩
end Go.Proofs.YtplodoindppleaaGreat
