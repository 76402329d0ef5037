import Derived.Test.YtbcmhnaiabifjaaHChooseZm
import Derived.Test.YtbcmhnaiabifjaaG08
import Derived.Lib.SliceRun
namespace Go.Proofs.Ytbcmhnaiabifjaa
set_option linter.unusedVariables false
open Go.RowKit
open Go.Lib (hid)
set_option maxRecDepth 100000 in
theorem run_bdA (so : Int) (bal : Int) (c : C7) (s : Int) (ft : Int) (w : World) : (Instr.build 49 #[(0, (.int .i64 so)), (3, (.int .i64 bal)), (4, (.agg #[.int .i64 c.i, .int .i64 c.k, .int .i64 c.s, .int .i64 c.t, .int .i64 c.d, .int .i64 c.p, .int .i64 c.q])), (7, (.int .i64 s)), (10, (.agg #[.int .i64 ft, .slice none 0 0]))]).run Try.prog w = .ok (.agg ({ zM with so := so, bal := bal, c := c, s := s, ft := ft } : Mg).arr) w := by kernel_rfl
theorem wpList_bdA {ops : Array Oper} {rest : List Oper} {op : Oper} {a : Act} {w : World} {Q : Exit → Act → World → Prop} {x0 x3 x4 x7 x10 : Operand} (so : Int) (bal : Int) (c : C7) (s : Int) (ft : Int) (hgd : op.guard = none) (ho : op.op = .build 49 #[(0, x0), (3, x3), (4, x4), (7, x7), (10, x10)]) (h0 : a.eval x0 = (.int .i64 so)) (h3 : a.eval x3 = (.int .i64 bal)) (h4 : a.eval x4 = (.agg #[.int .i64 c.i, .int .i64 c.k, .int .i64 c.s, .int .i64 c.t, .int .i64 c.d, .int .i64 c.p, .int .i64 c.q])) (h7 : a.eval x7 = (.int .i64 s)) (h10 : a.eval x10 = (.agg #[.int .i64 ft, .slice none 0 0]))
    (h : wpList Try.prog ops Q rest (a.put op.dst (.agg ({ zM with so := so, bal := bal, c := c, s := s, ft := ft } : Mg).arr)) w) : wpList Try.prog ops Q (op :: rest) a w := by
  refine wpList_plain hgd fun _ hK' => ?_
  unfold Oper.wp execOp
  have hb := run_bdA so bal c s ft w
  simp only [ho, List.map_toArray, List.map_cons, List.map_nil, h0, h3, h4, h7, h10, Sem.run_bind]
  rw [hb]
  simp only [Result.andThen_ok]
  exact hK' _ _ h
set_option maxRecDepth 100000 in
theorem run_bdB (so : Int) (fr : Int) (bal : Int) (c : C7) (s : Int) (ft : Int) (w : World) : (Instr.build 49 #[(0, (.int .i64 so)), (1, (.int .i64 fr)), (3, (.int .i64 bal)), (4, (.agg #[.int .i64 c.i, .int .i64 c.k, .int .i64 c.s, .int .i64 c.t, .int .i64 c.d, .int .i64 c.p, .int .i64 c.q])), (7, (.int .i64 s)), (10, (.agg #[.int .i64 ft, .slice none 0 0]))]).run Try.prog w = .ok (.agg ({ zM with so := so, fr := fr, bal := bal, c := c, s := s, ft := ft } : Mg).arr) w := by kernel_rfl
theorem wpList_bdB {ops : Array Oper} {rest : List Oper} {op : Oper} {a : Act} {w : World} {Q : Exit → Act → World → Prop} {x0 x1 x3 x4 x7 x10 : Operand} (so : Int) (fr : Int) (bal : Int) (c : C7) (s : Int) (ft : Int) (hgd : op.guard = none) (ho : op.op = .build 49 #[(0, x0), (1, x1), (3, x3), (4, x4), (7, x7), (10, x10)]) (h0 : a.eval x0 = (.int .i64 so)) (h1 : a.eval x1 = (.int .i64 fr)) (h3 : a.eval x3 = (.int .i64 bal)) (h4 : a.eval x4 = (.agg #[.int .i64 c.i, .int .i64 c.k, .int .i64 c.s, .int .i64 c.t, .int .i64 c.d, .int .i64 c.p, .int .i64 c.q])) (h7 : a.eval x7 = (.int .i64 s)) (h10 : a.eval x10 = (.agg #[.int .i64 ft, .slice none 0 0]))
    (h : wpList Try.prog ops Q rest (a.put op.dst (.agg ({ zM with so := so, fr := fr, bal := bal, c := c, s := s, ft := ft } : Mg).arr)) w) : wpList Try.prog ops Q (op :: rest) a w := by
  refine wpList_plain hgd fun _ hK' => ?_
  unfold Oper.wp execOp
  have hb := run_bdB so fr bal c s ft w
  simp only [ho, List.map_toArray, List.map_cons, List.map_nil, h0, h1, h3, h4, h7, h10, Sem.run_bind]
  rw [hb]
  simp only [Result.andThen_ok]
  exact hK' _ _ h
abbrev cL : C7 := ⟨16, 1, 0, 17, 0, 0, 0⟩
abbrev mA : Mg := { zM with so := 4, bal := 7, c := cL, s := 49, ft := 32 }
abbrev mB (f : Bool) : Mg := { zM with so := 4, fr := 1, bal := 7, c := cL, s := 66, ft := 32, fl := f }
set_option maxRecDepth 100000 in
theorem run_bs2 (f : Bool) (w : World) : (Instr.buildSlice 22 2 #[(0, .agg mA.arr), (1, .agg (mB f).arr)]).run Try.prog w = .ok (.slice (some ⟨w.heap.size, 0, none⟩) 2 2) (w.alloc (.cells (mA.list ++ (mB f).list).toArray 49)) := by kernel_rfl
theorem wpList_bs2 {ops : Array Oper} {rest : List Oper} {op : Oper} {a : Act} {w : World} {Q : Exit → Act → World → Prop} {x y : Operand} (f : Bool) (hgd : op.guard = none) (ho : op.op = .buildSlice 22 2 #[(0, x), (1, y)]) (hx : a.eval x = .agg mA.arr) (hy : a.eval y = .agg (mB f).arr)
    (h : ∀ W, W.heap[w.heap.size]? = some (.cells (mA.list ++ (mB f).list).toArray 49 (0, 0)) → Below w.heap.size w W → wpList Try.prog ops Q rest (a.put op.dst (.slice (some ⟨w.heap.size, 0, none⟩) 2 2)) W) : wpList Try.prog ops Q (op :: rest) a w := by
  refine wpList_plain hgd fun _ hK' => ?_
  unfold Oper.wp execOp
  simp only [ho, List.map_toArray, List.map_cons, List.map_nil, hx, hy, Sem.run_bind, run_bs2 f w, Result.andThen_ok]
  exact hK' _ _ (h _ (heap_alloc_new w _) ((Below.refl _ w).alloc (Nat.le_refl _) _))
def lsL (f : Bool) : List Ms := [⟨mA, [], [], []⟩, ⟨mB f, [], [], []⟩]
theorem slL {w : World} {q : Nat} {f : Bool} (h : w.heap[q]? = some (.cells (mA.list ++ (mB f).list).toArray 49 (0, 0))) : SlM w (.slice (some ⟨q, 0, none⟩) 2 2) (mgs (lsL f)) := ⟨q, 0, 2, _, rfl, fun _ => rfl, fun j y hy => by
  rcases j with _ | _ | j
  · obtain rfl := Option.some.inj hy
    intro i u hu
    rw [Nat.zero_add, cellAt' h, List.getElem?_toArray, List.getElem?_append_left (by have := (List.getElem?_eq_some_iff.1 hu).1; simpa using this)]
    simpa using hu
  · obtain rfl := Option.some.inj hy
    intro i u hu
    rw [cellAt' h, List.getElem?_toArray, List.getElem?_append_right (by rw [Mg.len]; omega), Mg.len, show 0 + (0 + 1) * 20 + i - 20 = i by omega]
    exact hu
  · simp [lsL, mgs] at hy, fun _ => (Array.getElem?_eq_some_iff.1 h).1⟩
theorem atL {w : World} {f : Bool} : ∀ m ∈ lsL f, m.at w := fun m hm => by
  have hn : Sl w (.slice none 0 0) [] := (Own.nil w 0).sl
  unfold lsL at hm
  simp only [List.mem_cons, List.not_mem_nil, or_false] at hm
  rcases hm with rfl | rfl <;> exact ⟨hn, hn, hn⟩
theorem shL {f : Bool} : ∀ m ∈ lsL f, m.short 1024 := fun m hm => by
  unfold lsL at hm
  simp only [List.mem_cons, List.not_mem_nil, or_false] at hm
  rcases hm with rfl | rfl <;> exact ⟨by simp, by simp, by simp⟩
set_option maxRecDepth 100000 in
theorem choL0 : choF 3 (lsL false) = ⟨2, 32, [], 0⟩ := by kernel_rfl
set_option maxRecDepth 100000 in
theorem choL1 : choF 3 (lsL true) = ⟨3, 66, [], 0⟩ := by kernel_rfl
theorem cChoose0L (W : World) {q : Nat} (h : W.heap[q]? = some (.cells (mA.list ++ (mB false).list).toArray 49 (0, 0))) : Calls Try.prog 8 #[.int .i64 3, .slice (some ⟨q, 0, none⟩) 2 2] W fun e w' => ∃ r : Sv, e = .returned (.tuple #[.agg (carr 2 32 r), .int .i64 0]) ∧ Below W.heap.size W w' := by
  refine (cChoose 3 (slL h) atL shL (by simp [lsL])).mono ?_
  rintro e w' ⟨r, rfl, hs, hB⟩
  rw [choL0]
  exact ⟨r, rfl, hB⟩
theorem cChoose1L (W : World) {q : Nat} (h : W.heap[q]? = some (.cells (mA.list ++ (mB true).list).toArray 49 (0, 0))) : Calls Try.prog 8 #[.int .i64 3, .slice (some ⟨q, 0, none⟩) 2 2] W fun e w' => ∃ r : Sv, e = .returned (.tuple #[.agg (carr 3 66 r), .int .i64 0]) ∧ Below W.heap.size W w' := by
  refine (cChoose 3 (slL h) atL shL (by simp [lsL])).mono ?_
  rintro e w' ⟨r, rfl, hs, hB⟩
  rw [choL1]
  exact ⟨r, rfl, hB⟩
end Go.Proofs.Ytbcmhnaiabifjaa
namespace Go.Proofs.Ytbcmhnaiabifjaa
set_option linter.unusedVariables false
open Go.RowKit
open Go.Lib (hid)
theorem mB_set : (mB false).arr.setIfInBounds 13 (.bool true) = (mB true).arr := rfl
set_option maxHeartbeats 16000000 in
set_option maxRecDepth 100000 in
theorem cAlive15 (w : World) : Calls Try.prog 7 #[] w fun e w' => e = .returned (.bool true) ∧ Below w.heap.size w w' := by
  go_enter Try.func7, Try.ntmps7
  have HC2 : Hid (((w.alloc (.cells #[.int .i64 16, .int .i64 1, .int .i64 0, .int .i64 17, .int .i64 0, .int .i64 0, .int .i64 0] 47)).alloc (.cells #[.int .i64 32, .slice none 0 0] 28)).heap[w.heap.size]? = some (.cells #[.int .i64 16, .int .i64 1, .int .i64 0, .int .i64 17, .int .i64 0, .int .i64 0, .int .i64 0] 47)) := hid (laid2_0 w _ _)
  have HV2 : Hid (((w.alloc (.cells #[.int .i64 16, .int .i64 1, .int .i64 0, .int .i64 17, .int .i64 0, .int .i64 0, .int .i64 0] 47)).alloc (.cells #[.int .i64 32, .slice none 0 0] 28)).heap[w.heap.size + 1]? = some (.cells #[.int .i64 32, .slice none 0 0] 28)) := hid (laid2_1 w _ _)
  have HB2 : Hid (Below w.heap.size w ((w.alloc (.cells #[.int .i64 16, .int .i64 1, .int .i64 0, .int .i64 17, .int .i64 0, .int .i64 0, .int .i64 0] 47)).alloc (.cells #[.int .i64 32, .slice none 0 0] 28))) := hid (laid2_b w _ _)
  have HZ2 : Hid (((w.alloc (.cells #[.int .i64 16, .int .i64 1, .int .i64 0, .int .i64 17, .int .i64 0, .int .i64 0, .int .i64 0] 47)).alloc (.cells #[.int .i64 32, .slice none 0 0] 28)).heap.size = w.heap.size + 2) := hid (by simp)
  go_upto_region 3 with fail
  generalize ((w.alloc (.cells #[.int .i64 16, .int .i64 1, .int .i64 0, .int .i64 17, .int .i64 0, .int .i64 0, .int .i64 0] 47)).alloc (.cells #[.int .i64 32, .slice none 0 0] 28)) = W2 at HC2 HV2 HB2 HZ2 ⊢
  have HF : Hid (∀ W, Below W2.heap.size W2 W → W.cell? ⟨w.heap.size, 0, none⟩ = some (.int .i64 16) ∧ W.cell? ⟨w.heap.size, 1, none⟩ = some (.int .i64 1) ∧ W.cell? ⟨w.heap.size, 2, none⟩ = some (.int .i64 0) ∧ W.cell? ⟨w.heap.size, 3, none⟩ = some (.int .i64 17) ∧ W.cell? ⟨w.heap.size, 4, none⟩ = some (.int .i64 0) ∧ W.cell? ⟨w.heap.size, 5, none⟩ = some (.int .i64 0) ∧ W.cell? ⟨w.heap.size, 6, none⟩ = some (.int .i64 0) ∧ W.cell? ⟨w.heap.size + 1, 0, none⟩ = some (.int .i64 32) ∧ W.cell? ⟨w.heap.size + 1, 1, none⟩ = some (.slice none 0 0)) := hid (fun W hW => by have h1 := (hW.block w.heap.size (by have := HZ2.out; omega)).trans HC2.out; have h2 := (hW.block (w.heap.size + 1) (by have := HZ2.out; omega)).trans HV2.out; exact ⟨(cellAt' h1 0).trans rfl, (cellAt' h1 1).trans rfl, (cellAt' h1 2).trans rfl, (cellAt' h1 3).trans rfl, (cellAt' h1 4).trans rfl, (cellAt' h1 5).trans rfl, (cellAt' h1 6).trans rfl, (cellAt' h2 0).trans rfl, (cellAt' h2 1).trans rfl⟩)
  obtain ⟨c0, c1, c2, c3, c4, c5, c6, v0, v1⟩ := HF.out W2 (Below.refl _ _)
  go_upto_region 4 with (first
    | ((with_reducible refine wpList_bdA (x0 := ?x0_1) (x3 := ?x3_1) (x4 := ?x4_1) (x7 := ?x7_1) (x10 := ?x10_1) 4 7 cL 49 32 ?bg_1 ?bo_1 ?be0_1 ?be3_1 ?be4_1 ?be7_1 ?be10_1 ?_); (case bg_1 => rfl); (case bo_1 => rfl); (case be0_1 => rfl); (case be3_1 => rfl); (case be4_1 => rfl); (case be7_1 => rfl); (case be10_1 => rfl))
    | ((with_reducible refine storeM (x := ?sx2) (y := ?sy2) (b := W2.heap.size) mA ?sg2 ?so2 ?sxx2 ?syy2 ?sc2 ?sh2); (case sg2 => rfl); (case so2 => rfl); (case sxx2 => rfl); (case syy2 => rfl); (case sc2 => exact roomZ _); intro W3 hO hU; have HA3 : Hid (OM W3 W2.heap.size mA) := hid hO; have HB3 : Hid (Below W2.heap.size W2 W3) := hid ((laid1_b W2 zeroMc).trans (hU.below W2.heap.size (Nat.le_refl _))); clear hO hU)
    | fail)
  clear c0 c1 c2 c3 c4 c5 c6 v0 v1
  obtain ⟨c0, c1, c2, c3, c4, c5, c6, v0, v1⟩ := HF.out W3 HB3.out
  have HL3 := hid (Array.getElem?_eq_some_iff.1 HA3.out).1
  go_upto_region 5 with (first
    | ((with_reducible refine wpList_bdB (x0 := ?x0_3) (x1 := ?x1_3) (x3 := ?x3_3) (x4 := ?x4_3) (x7 := ?x7_3) (x10 := ?x10_3) 4 1 7 cL 66 32 ?bg_3 ?bo_3 ?be0_3 ?be1_3 ?be3_3 ?be4_3 ?be7_3 ?be10_3 ?_); (case bg_3 => rfl); (case bo_3 => rfl); (case be0_3 => rfl); (case be1_3 => rfl); (case be3_3 => rfl); (case be4_3 => rfl); (case be7_3 => rfl); (case be10_3 => rfl))
    | ((with_reducible refine storeM (x := ?sx4) (y := ?sy4) (b := W3.heap.size) (mB false) ?sg4 ?so4 ?sxx4 ?syy4 ?sc4 ?sh4); (case sg4 => rfl); (case so4 => rfl); (case sxx4 => rfl); (case syy4 => rfl); (case sc4 => exact roomZ _); intro W4 hO hU; have HBb4 : Hid (OM W4 W3.heap.size (mB false)) := hid hO; have HS4 : Hid (Below W3.heap.size W3 W4) := hid ((laid1_b W3 zeroMc).trans (hU.below W3.heap.size (Nat.le_refl _))); have HA4 : Hid (OM W4 W2.heap.size mA) := hid (heapB HA3.out HS4.out HL3.out); clear hO hU)
    | fail)
  clear c0 c1 c2 c3 c4 c5 c6 v0 v1
  have HB4 : Hid (Below W2.heap.size W2 W4) := hid (HB3.out.trans (HS4.out.mono HB3.out.size))
  have HL4 := hid (Array.getElem?_eq_some_iff.1 HBb4.out).1
  go_upto_region 6 with (first
    | ((with_reducible refine loadM (x := ?lx5) (b := W2.heap.size) mA ?lg5 ?lo5 ?lxx5 ?lc5 ?lh5); (case lg5 => rfl); (case lo5 => rfl); (case lxx5 => rfl); (case lc5 => exact HA4.out))
    | ((with_reducible refine loadM (x := ?lx6) (b := W3.heap.size) (mB false) ?lg6 ?lo6 ?lxx6 ?lc6 ?lh6); (case lg6 => rfl); (case lo6 => rfl); (case lxx6 => rfl); (case lc6 => exact HBb4.out))
    | ((with_reducible refine wpList_bs2 (x := ?ex7) (y := ?ey7) false ?eg7 ?eo7 ?exx7 ?eyy7 ?eh7); (case eg7 => rfl); (case eo7 => rfl); (case exx7 => rfl); (case eyy7 => rfl); intro W5 hX hB; have HX5 := hid hX; have HS5 := hid hB; clear hX hB)
    | (go_at_call 8; refine (cChoose0L W5 HX5.out).mono ?_; rintro e W6 ⟨r, rfl, hB⟩; have HS6 := hid hB; clear hB)
    | ((with_reducible refine storeCh (x := ?cx8) (y := ?cy8) (b := W6.heap.size) 2 32 r ?cg8 ?co8 ?cxx8 ?cyy8 ?cc8 ?ch8); (case cg8 => rfl); (case co8 => rfl); (case cxx8 => rfl); (case cyy8 => rfl); (case cc8 => exact roomCZ _); intro W7 hO hU; have HC7 : Hid (OC W7 W6.heap.size 2 32 r) := hid hO; have HS7 : Hid (Below W6.heap.size W6 W7) := hid ((laid1_b W6 zeroCc).trans (hU.below W6.heap.size (Nat.le_refl _))); clear hO hU)
    | fail)
  have HS47 : Hid (Below W4.heap.size W4 W7) := hid (HS5.out.trans ((HS6.out.trans (HS7.out.mono HS6.out.size)).mono HS5.out.size))
  have HA7 : Hid (OM W7 W2.heap.size mA) := hid (heapB HA4.out HS47.out (Array.getElem?_eq_some_iff.1 HA4.out).1)
  have HBb7 : Hid (OM W7 W3.heap.size (mB false)) := hid (heapB HBb4.out HS47.out HL4.out)
  have b0 : W7.cell? ⟨W3.heap.size, 13, none⟩ = some (.bool false) := HBb7.out.cell (m := mB false) (j := 13) rfl
  have b1 : W7.frozen? ⟨W3.heap.size, 13, none⟩ = false := HBb7.out.free 13
  go_upto_region 7 with fail
  obtain ⟨W8, hW8⟩ : ∃ z, z = W7.setCell ⟨W3.heap.size, 13, none⟩ (.bool true) := ⟨_, rfl⟩
  rw [← hW8]
  have HT8 : Hid (Tch (fun k => k = W3.heap.size) W7 W8) := hid (by rw [hW8]; exact Tch.ofGrown (grownSet W7 ⟨W3.heap.size, 13, none⟩ (.bool true)) fun k e => (Option.some.inj e).symm)
  have HBb8 : Hid (OM W8 W3.heap.size (mB true)) := hid (by rw [hW8]; exact HBb7.out.set mB_set)
  have HL6 : Hid (W3.heap.size < W6.heap.size) := hid (Nat.lt_of_lt_of_le HL4.out (Nat.le_trans HS5.out.size HS6.out.size))
  have HA8 : Hid (OM W8 W2.heap.size mA) := hid ((HT8.out.block _ (Array.getElem?_eq_some_iff.1 HA7.out).1 (by have := HL3.out; omega)).trans HA7.out)
  have HC8 : Hid (OC W8 W6.heap.size 2 32 r) := hid ((HT8.out.block _ (Array.getElem?_eq_some_iff.1 HC7.out).1 (by have := HL6.out; omega)).trans HC7.out)
  have HB8 : Hid (Below W2.heap.size W2 W8) := hid (by rw [hW8]; exact (HB4.out.trans (HS47.out.mono HB4.out.size)).grown (grownSet W7 ⟨W3.heap.size, 13, none⟩ (.bool true)) (Nat.le_trans HB4.out.size HS47.out.size) (fun k hk => by injection hk with hk; subst hk; exact HB3.out.size))
  clear hW8 b0 b1
  obtain ⟨r0, hr0⟩ : ∃ z : Sv, z = r := ⟨_, rfl⟩
  rw [← hr0] at HC8
  clear hr0
  go_upto_region 8 with (first
    | ((with_reducible refine loadM (x := ?lx9) (b := W2.heap.size) mA ?lg9 ?lo9 ?lxx9 ?lc9 ?lh9); (case lg9 => rfl); (case lo9 => rfl); (case lxx9 => rfl); (case lc9 => exact HA8.out))
    | ((with_reducible refine loadM (x := ?lx10) (b := W3.heap.size) (mB true) ?lg10 ?lo10 ?lxx10 ?lc10 ?lh10); (case lg10 => rfl); (case lo10 => rfl); (case lxx10 => rfl); (case lc10 => exact HBb8.out))
    | ((with_reducible refine wpList_bs2 (x := ?ex11) (y := ?ey11) true ?eg11 ?eo11 ?exx11 ?eyy11 ?eh11); (case eg11 => rfl); (case eo11 => rfl); (case exx11 => rfl); (case eyy11 => rfl); intro W9 hX hB; have HX9 := hid hX; have HS9 := hid hB; clear hX hB)
    | (go_at_call 8; refine (cChoose1L W9 HX9.out).mono ?_; rintro e W10 ⟨r, rfl, hB⟩; have HS10 := hid hB; clear hB)
    | ((with_reducible refine storeCh (x := ?cx12) (y := ?cy12) (b := W10.heap.size) 3 66 r ?cg12 ?co12 ?cxx12 ?cyy12 ?cc12 ?ch12); (case cg12 => rfl); (case co12 => rfl); (case cxx12 => rfl); (case cyy12 => rfl); (case cc12 => exact roomCZ _); intro W11 hO hU; have HC11 : Hid (OC W11 W10.heap.size 3 66 r) := hid hO; have HS11 : Hid (Below W10.heap.size W10 W11) := hid ((laid1_b W10 zeroCc).trans (hU.below W10.heap.size (Nat.le_refl _))); clear hO hU)
    | fail)
  have HS811 : Hid (Below W8.heap.size W8 W11) := hid (HS9.out.trans ((HS10.out.trans (HS11.out.mono HS10.out.size)).mono HS9.out.size))
  have HC8' : Hid (OC W11 W6.heap.size 2 32 r0) := hid (heapB HC8.out HS811.out (Array.getElem?_eq_some_iff.1 HC8.out).1)
  have a0 : W11.cell? ⟨W6.heap.size, 0, none⟩ = some (.int .i64 2) := (cellAt' HC8'.out 0).trans rfl
  have a1 : W11.cell? ⟨W6.heap.size, 1, none⟩ = some (.int .i64 32) := (cellAt' HC8'.out 1).trans rfl
  have a2 : W11.cell? ⟨W10.heap.size, 0, none⟩ = some (.int .i64 3) := (cellAt' HC11.out 0).trans rfl
  have a3 : W11.cell? ⟨W10.heap.size, 1, none⟩ = some (.int .i64 66) := (cellAt' HC11.out 1).trans rfl
  go_wp2_with fail
  go_ret
  exact ⟨rfl, HB2.out.trans ((HB8.out.trans (HS811.out.mono HB8.out.size)).mono HB2.out.size)⟩
end Go.Proofs.Ytbcmhnaiabifjaa
namespace Go.Proofs.Ytbcmhnaiabifjaa
set_option linter.unusedVariables false
open Go.RowKit
open Go.Lib (hid)
def fitsM (m : Ms) : Bool := decide (m.v.length ≤ 100) && (decide (m.a.length ≤ 100) && decide (m.f.length ≤ 100))
theorem fitsM_short {m : Ms} (h : fitsM m = true) : m.short 100 := by
  unfold fitsM at h
  simp only [Bool.and_eq_true, decide_eq_true_eq] at h
  exact ⟨h.1, h.2.1, h.2.2⟩
set_option maxHeartbeats 4000000 in
set_option maxRecDepth 100000 in
theorem cFitsM {w : World} {m : Ms} (hm : m.at w) : Calls Try.prog 18 #[.agg m.m.arr] w fun e w' => e = .returned (.bool (fitsM m)) ∧ Below w.heap.size w w' := by
  have HB := hid (laid1_b w (.cells m.m.arr 49))
  have HM : Hid (OM (w.alloc (.cells m.m.arr 49)) w.heap.size m.m) := hid (laid1_0 w _)
  have e1 := hm.1.lenP
  have e2 := hm.2.1.lenP
  have e3 := hm.2.2.lenP
  obtain ⟨n1, h1⟩ : ∃ n, n = m.m.vp.n := ⟨_, rfl⟩
  obtain ⟨n2, h2⟩ : ∃ n, n = m.m.xp.n := ⟨_, rfl⟩
  obtain ⟨n3, h3⟩ : ∃ n, n = m.m.fp.n := ⟨_, rfl⟩
  have HE : Hid (fitsM m = (decide (n1 ≤ 100) && (decide (n2 ≤ 100) && decide (n3 ≤ 100)))) := hid (by unfold fitsM; rw [h1, h2, h3, e1, e2, e3])
  have H1 := hid h1
  have H2 := hid h2
  have H3 := hid h3
  clear e1 e2 e3 h1 h2 h3 hm
  go_enter Try.func18, Try.ntmps18
  go_upto_region 1 with fail
  generalize (w.alloc (.cells m.m.arr 49)) = W0 at HB HM ⊢
  have k1 : W0.cell? ⟨w.heap.size, 12, none⟩ = some (.slice m.m.vp.a n1 m.m.vp.c) := by rw [H1.out]; exact HM.out.cell (m := m.m) (j := 12) rfl
  have k2 : W0.cell? ⟨w.heap.size, 17, none⟩ = some (.slice m.m.xp.a n2 m.m.xp.c) := by rw [H2.out]; exact HM.out.cell (m := m.m) (j := 17) rfl
  have k3 : W0.cell? ⟨w.heap.size, 19, none⟩ = some (.slice m.m.fp.a n3 m.m.fp.c) := by rw [H3.out]; exact HM.out.cell (m := m.m) (j := 19) rfl
  by_cases c1 : n1 ≤ 100
  · have c1i : (n1 : Int) ≤ 100 := by omega
    by_cases c2 : n2 ≤ 100
    · have c2i : (n2 : Int) ≤ 100 := by omega
      by_cases c3 : n3 ≤ 100
      · have c3i : (n3 : Int) ≤ 100 := by omega
        have HR : Hid (fitsM m = true) := hid (by rw [HE.out]; simp [c1, c2, c3])
        clear c1 c2 c3
        go_wp2_with fail
        go_ret
        exact ⟨ret_bool HR.out.symm, HB.out⟩
      · have c3i : ¬ (n3 : Int) ≤ 100 := by omega
        have HR : Hid (fitsM m = false) := hid (by rw [HE.out]; simp [c3])
        clear c1 c2 c3
        go_wp2_with fail
        go_ret
        exact ⟨ret_bool HR.out.symm, HB.out⟩
    · have c2i : ¬ (n2 : Int) ≤ 100 := by omega
      have HR : Hid (fitsM m = false) := hid (by rw [HE.out]; simp [c2])
      clear c1 c2
      go_wp2_with fail
      go_ret
      exact ⟨ret_bool HR.out.symm, HB.out⟩
  · have c1i : ¬ (n1 : Int) ≤ 100 := by omega
    have HR : Hid (fitsM m = false) := hid (by rw [HE.out]; simp [c1])
    clear c1
    go_wp2_with fail
    go_ret
    exact ⟨ret_bool HR.out.symm, HB.out⟩
end Go.Proofs.Ytbcmhnaiabifjaa
namespace Go.Proofs.Ytbcmhnaiabifjaa
set_option linter.unusedVariables false
open Go.RowKit
open Go.Lib (hid)
set_option maxHeartbeats 4000000 in
set_option maxRecDepth 100000 in
theorem cFitsMs {v : Value} {l : List Ms} {w : World} (h : SlM w v (mgs l)) (hA : ∀ m ∈ l, m.at w) (hl : l.length ≤ 9223372036854775807) : Calls Try.prog 6 #[v] w fun e w' => (e = .returned (.bool false) ∨ (e = .returned (.bool true) ∧ l.length ≤ 20 ∧ ∀ m ∈ l, m.short 100)) ∧ Below w.heap.size w w' := by
  obtain ⟨b, o, cap, a, rfl, ha, hc, hb⟩ := h
  have hlm : (mgs l).length = l.length := by unfold mgs; rw [List.length_map]
  rw [hlm] at ha hb ⊢
  have HA := hid hA
  have HCC := hid hc
  obtain ⟨m, hm⟩ : ∃ m, m = l.length := ⟨_, rfl⟩
  rw [← hm] at ha hb hl ⊢
  have HN := hid hm
  clear hm hA hc hlm
  go_enter Try.func6, Try.ntmps6
  go_wp2_with fail
  go_loopw [3] (fun i wr => ∃ (k : Nat), k ≤ m ∧ k ≤ 21 ∧ i = .int .i64 k ∧ Hid (∀ y ∈ l.take k, fitsM y = true) ∧ Below w.heap.size w wr) (fun i _ => m - (RowKit.intOf i).toNat)
  case atStart => exact ⟨0, Nat.zero_le _, by omega, rfl, hid (by simp), Below.refl _ _⟩
  case round =>
    obtain ⟨k, hk, hk41, rfl, HALL, hB⟩ := hrel
    have HB := hid hB
    clear hB
    by_cases hlt : k < m
    · by_cases h40 : k ≤ 20
      · obtain rfl := ha (by omega)
        obtain ⟨y, hy⟩ : ∃ y, l[k]? = some y := ⟨l[k]'(by rw [← HN.out]; exact hlt), List.getElem?_eq_getElem (by rw [← HN.out]; exact hlt)⟩
        have hbw := hb (by omega)
        have HC : Hid (wr.rangeAt b (o + k * 20) y.m.list) := hid ((HCC.out.on HB.out fun _ => hbw) k y.m (at_mgs hy))
        have HE := hid hy
        have hF := cFitsM ((HA.out y (List.mem_of_getElem? hy)).on HB.out)
        obtain ⟨rt, hrt⟩ : ∃ rt, rt = fitsM y := ⟨_, rfl⟩
        rw [← hrt] at hF
        have HRT := hid hrt
        clear hy hrt
        rcases rt with _ | _
        · go_wp2_with (first
            | ((with_reducible refine loadMl (x := ?lx1) (b := ?lb1) (o := ?lo1) y.m ?lg1 ?lp1 ?lxx1 ?lc1 ?_); (case lg1 => rfl); (case lp1 => rfl); (case lxx1 => rfl); (case lc1 => exact HC.out))
            | (go_at_call 18; refine hF.mono ?_; rintro q w1 ⟨rfl, hB1⟩; have HB1 := hid (HB.out.trans (hB1.mono HB.out.size)); clear hB1)
            | fail)
          go_ret
          exact ⟨.inl rfl, HB1.out⟩
        · go_wp2_with (first
            | ((with_reducible refine loadMl (x := ?lx2) (b := ?lb2) (o := ?lo2) y.m ?lg2 ?lp2 ?lxx2 ?lc2 ?_); (case lg2 => rfl); (case lp2 => rfl); (case lxx2 => rfl); (case lc2 => exact HC.out))
            | (go_at_call 18; refine hF.mono ?_; rintro q w1 ⟨rfl, hB1⟩; have HB1 := hid (HB.out.trans (hB1.mono HB.out.size)); clear hB1)
            | fail)
          go_roundw
          case rel => exact ⟨k + 1, by omega, by omega, by go_num, hid (fun z hz => by rw [List.take_add_one, HE.out] at hz; rcases List.mem_append.1 hz with hz | hz; exact HALL.out z hz; simp at hz; subst hz; exact HRT.out.symm), HB1.out⟩
          case measure => simp [RowKit.intOf]; omega
      · have hm40 : ¬ m ≤ 20 := by omega
        go_wp2_with fail
        go_ret
        exact ⟨.inl (ret_bool (decide_eq_false (by omega))), HB.out⟩
    · have hkk : k = m := by omega
      subst hkk
      by_cases hm40 : k ≤ 20
      · have HF : Hid (∀ y ∈ l, y.short 100) := hid (fun y hy => fitsM_short (by have := HALL.out; rw [HN.out, List.take_length] at this; exact this y hy))
        have HM := hid hm40
        go_wp2_with fail
        go_ret
        exact ⟨.inr ⟨ret_bool (decide_eq_true (by have := HM.out; omega)), HM.out, HF.out⟩, HB.out⟩
      · go_wp2_with fail
        go_ret
        exact ⟨.inl (ret_bool (decide_eq_false (by omega))), HB.out⟩
end Go.Proofs.Ytbcmhnaiabifjaa
