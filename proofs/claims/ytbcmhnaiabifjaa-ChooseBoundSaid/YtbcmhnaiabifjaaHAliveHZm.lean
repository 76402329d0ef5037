import Derived.Test.YtbcmhnaiabifjaaHChooseZm
namespace Go.Proofs.Ytbcmhnaiabifjaa
set_option linter.unusedVariables false
open Go.RowKit
open Go.Lib (hid)
set_option maxRecDepth 100000 in
theorem run_bdA (so : Int) (bal : Int) (c : C7) (s : Int) (ft : Int) (w : World) : (Instr.build 49 #[(0, (.int .i64 so)), (3, (.int .i64 bal)), (4, (.agg #[.int .i64 c.i, .int .i64 c.k, .int .i64 c.s, .int .i64 c.t, .int .i64 c.d, .int .i64 c.p, .int .i64 c.q])), (7, (.int .i64 s)), (10, (.agg #[.int .i64 ft, .slice none 0 0]))]).run Try.prog w = .ok (.agg ({ zM with so := so, bal := bal, c := c, s := s, ft := ft } : Mg).arr) w := by kernel_rfl
theorem wpList_bdA {ops : Array Oper} {rest : List Oper} {op : Oper} {a : Act} {w : World} {Q : Exit → Act → World → Prop} {x0 x3 x4 x7 x10 : Operand} (so : Int) (bal : Int) (c : C7) (s : Int) (ft : Int) (hgd : op.guard = none) (ho : op.op = .build 49 #[(0, x0), (3, x3), (4, x4), (7, x7), (10, x10)]) (h0 : a.eval x0 = (.int .i64 so)) (h3 : a.eval x3 = (.int .i64 bal)) (h4 : a.eval x4 = (.agg #[.int .i64 c.i, .int .i64 c.k, .int .i64 c.s, .int .i64 c.t, .int .i64 c.d, .int .i64 c.p, .int .i64 c.q])) (h7 : a.eval x7 = (.int .i64 s)) (h10 : a.eval x10 = (.agg #[.int .i64 ft, .slice none 0 0]))
    (h : wpList Try.prog ops Q rest (a.put op.dst (.agg ({ zM with so := so, bal := bal, c := c, s := s, ft := ft } : Mg).arr)) w) : wpList Try.prog ops Q (op :: rest) a w := by
  refine wpList_plain hgd fun _ hK' => ?_
  unfold Oper.wp execOp
  have hb := run_bdA so bal c s ft w
  simp only [ho, List.map_toArray, List.map_cons, List.map_nil, h0, h3, h4, h7, h10, Sem.run_bind]
  rw [hb]
  simp only [Result.andThen_ok]
  exact hK' _ _ h
set_option maxRecDepth 100000 in
theorem run_bdB (so : Int) (fr : Int) (bal : Int) (c : C7) (s : Int) (ft : Int) (w : World) : (Instr.build 49 #[(0, (.int .i64 so)), (1, (.int .i64 fr)), (3, (.int .i64 bal)), (4, (.agg #[.int .i64 c.i, .int .i64 c.k, .int .i64 c.s, .int .i64 c.t, .int .i64 c.d, .int .i64 c.p, .int .i64 c.q])), (7, (.int .i64 s)), (10, (.agg #[.int .i64 ft, .slice none 0 0]))]).run Try.prog w = .ok (.agg ({ zM with so := so, fr := fr, bal := bal, c := c, s := s, ft := ft } : Mg).arr) w := by kernel_rfl
theorem wpList_bdB {ops : Array Oper} {rest : List Oper} {op : Oper} {a : Act} {w : World} {Q : Exit → Act → World → Prop} {x0 x1 x3 x4 x7 x10 : Operand} (so : Int) (fr : Int) (bal : Int) (c : C7) (s : Int) (ft : Int) (hgd : op.guard = none) (ho : op.op = .build 49 #[(0, x0), (1, x1), (3, x3), (4, x4), (7, x7), (10, x10)]) (h0 : a.eval x0 = (.int .i64 so)) (h1 : a.eval x1 = (.int .i64 fr)) (h3 : a.eval x3 = (.int .i64 bal)) (h4 : a.eval x4 = (.agg #[.int .i64 c.i, .int .i64 c.k, .int .i64 c.s, .int .i64 c.t, .int .i64 c.d, .int .i64 c.p, .int .i64 c.q])) (h7 : a.eval x7 = (.int .i64 s)) (h10 : a.eval x10 = (.agg #[.int .i64 ft, .slice none 0 0]))
    (h : wpList Try.prog ops Q rest (a.put op.dst (.agg ({ zM with so := so, fr := fr, bal := bal, c := c, s := s, ft := ft } : Mg).arr)) w) : wpList Try.prog ops Q (op :: rest) a w := by
  refine wpList_plain hgd fun _ hK' => ?_
  unfold Oper.wp execOp
  have hb := run_bdB so fr bal c s ft w
  simp only [ho, List.map_toArray, List.map_cons, List.map_nil, h0, h1, h3, h4, h7, h10, Sem.run_bind]
  rw [hb]
  simp only [Result.andThen_ok]
  exact hK' _ _ h
set_option maxRecDepth 100000 in
theorem run_bdC (so : Int) (fr : Int) (bal : Int) (c : C7) (s : Int) (w : World) : (Instr.build 49 #[(0, (.int .i64 so)), (1, (.int .i64 fr)), (3, (.int .i64 bal)), (4, (.agg #[.int .i64 c.i, .int .i64 c.k, .int .i64 c.s, .int .i64 c.t, .int .i64 c.d, .int .i64 c.p, .int .i64 c.q])), (7, (.int .i64 s))]).run Try.prog w = .ok (.agg ({ zM with so := so, fr := fr, bal := bal, c := c, s := s } : Mg).arr) w := by kernel_rfl
theorem wpList_bdC {ops : Array Oper} {rest : List Oper} {op : Oper} {a : Act} {w : World} {Q : Exit → Act → World → Prop} {x0 x1 x3 x4 x7 : Operand} (so : Int) (fr : Int) (bal : Int) (c : C7) (s : Int) (hgd : op.guard = none) (ho : op.op = .build 49 #[(0, x0), (1, x1), (3, x3), (4, x4), (7, x7)]) (h0 : a.eval x0 = (.int .i64 so)) (h1 : a.eval x1 = (.int .i64 fr)) (h3 : a.eval x3 = (.int .i64 bal)) (h4 : a.eval x4 = (.agg #[.int .i64 c.i, .int .i64 c.k, .int .i64 c.s, .int .i64 c.t, .int .i64 c.d, .int .i64 c.p, .int .i64 c.q])) (h7 : a.eval x7 = (.int .i64 s))
    (h : wpList Try.prog ops Q rest (a.put op.dst (.agg ({ zM with so := so, fr := fr, bal := bal, c := c, s := s } : Mg).arr)) w) : wpList Try.prog ops Q (op :: rest) a w := by
  refine wpList_plain hgd fun _ hK' => ?_
  unfold Oper.wp execOp
  have hb := run_bdC so fr bal c s w
  simp only [ho, List.map_toArray, List.map_cons, List.map_nil, h0, h1, h3, h4, h7, Sem.run_bind]
  rw [hb]
  simp only [Result.andThen_ok]
  exact hK' _ _ h
abbrev cL : C7 := ⟨16, 1, 0, 17, 0, 0, 0⟩
abbrev mA : Mg := { zM with so := 4, bal := 7, c := cL, s := 49, ft := 32 }
abbrev mB (f : Bool) : Mg := { zM with so := 4, fr := 1, bal := 7, c := cL, s := 66, ft := 32, fl := f }
set_option maxRecDepth 100000 in
theorem run_bs2 (f : Bool) (w : World) : (Instr.buildSlice 22 2 #[(0, .agg mA.arr), (1, .agg (mB f).arr)]).run Try.prog w = .ok (.slice (some ⟨w.heap.size, 0, none⟩) 2 2) (w.alloc (.cells (mA.list ++ (mB f).list).toArray 49)) := by kernel_rfl
theorem wpList_bs2 {ops : Array Oper} {rest : List Oper} {op : Oper} {a : Act} {w : World} {Q : Exit → Act → World → Prop} {x y : Operand} (f : Bool) (hgd : op.guard = none) (ho : op.op = .buildSlice 22 2 #[(0, x), (1, y)]) (hx : a.eval x = .agg mA.arr) (hy : a.eval y = .agg (mB f).arr)
    (h : ∀ W, W.heap[w.heap.size]? = some (.cells (mA.list ++ (mB f).list).toArray 49 (0, 0)) → Below w.heap.size w W → wpList Try.prog ops Q rest (a.put op.dst (.slice (some ⟨w.heap.size, 0, none⟩) 2 2)) W) : wpList Try.prog ops Q (op :: rest) a w := by
  refine wpList_plain hgd fun _ hK' => ?_
  unfold Oper.wp execOp
  simp only [ho, List.map_toArray, List.map_cons, List.map_nil, hx, hy, Sem.run_bind, run_bs2 f w, Result.andThen_ok]
  exact hK' _ _ (h _ (heap_alloc_new w _) ((Below.refl _ w).alloc (Nat.le_refl _) _))
def lsL (f : Bool) : List Ms := [⟨mA, [], [], []⟩, ⟨mB f, [], [], []⟩]
theorem slL {w : World} {q : Nat} {f : Bool} (h : w.heap[q]? = some (.cells (mA.list ++ (mB f).list).toArray 49 (0, 0))) : SlM w (.slice (some ⟨q, 0, none⟩) 2 2) (mgs (lsL f)) := ⟨q, 0, 2, _, rfl, fun _ => rfl, fun j y hy => by
  rcases j with _ | _ | j
  · obtain rfl := Option.some.inj hy
    intro i u hu
    rw [Nat.zero_add, cellAt' h, List.getElem?_toArray, List.getElem?_append_left (by have := (List.getElem?_eq_some_iff.1 hu).1; simpa using this)]
    simpa using hu
  · obtain rfl := Option.some.inj hy
    intro i u hu
    rw [cellAt' h, List.getElem?_toArray, List.getElem?_append_right (by rw [Mg.len]; omega), Mg.len, show 0 + (0 + 1) * 20 + i - 20 = i by omega]
    exact hu
  · simp [lsL, mgs] at hy, fun _ => (Array.getElem?_eq_some_iff.1 h).1⟩
theorem atL {w : World} {f : Bool} : ∀ m ∈ lsL f, m.at w := fun m hm => by
  have hn : Sl w (.slice none 0 0) [] := (Own.nil w 0).sl
  unfold lsL at hm
  simp only [List.mem_cons, List.not_mem_nil, or_false] at hm
  rcases hm with rfl | rfl <;> exact ⟨hn, hn, hn⟩
theorem shL {f : Bool} : ∀ m ∈ lsL f, m.short 1024 := fun m hm => by
  unfold lsL at hm
  simp only [List.mem_cons, List.not_mem_nil, or_false] at hm
  rcases hm with rfl | rfl <;> exact ⟨by simp, by simp, by simp⟩
set_option maxRecDepth 100000 in
theorem choL0 : choF 3 (lsL false) = ⟨2, 32, [], 0⟩ := by kernel_rfl
set_option maxRecDepth 100000 in
theorem choL1 : choF 3 (lsL true) = ⟨3, 66, [], 0⟩ := by kernel_rfl
theorem cChoose0L (W : World) {q : Nat} (h : W.heap[q]? = some (.cells (mA.list ++ (mB false).list).toArray 49 (0, 0))) : Calls Try.prog 8 #[.int .i64 3, .slice (some ⟨q, 0, none⟩) 2 2] W fun e w' => ∃ r : Sv, e = .returned (.tuple #[.agg (carr 2 32 r), .int .i64 0]) ∧ Below W.heap.size W w' := by
  refine (cChoose 3 (slL h) atL shL (by simp [lsL])).mono ?_
  rintro e w' ⟨r, rfl, hs, hB⟩
  rw [choL0]
  exact ⟨r, rfl, hB⟩
theorem cChoose1L (W : World) {q : Nat} (h : W.heap[q]? = some (.cells (mA.list ++ (mB true).list).toArray 49 (0, 0))) : Calls Try.prog 8 #[.int .i64 3, .slice (some ⟨q, 0, none⟩) 2 2] W fun e w' => ∃ r : Sv, e = .returned (.tuple #[.agg (carr 3 66 r), .int .i64 0]) ∧ Below W.heap.size W w' := by
  refine (cChoose 3 (slL h) atL shL (by simp [lsL])).mono ?_
  rintro e w' ⟨r, rfl, hs, hB⟩
  rw [choL1]
  exact ⟨r, rfl, hB⟩
end Go.Proofs.Ytbcmhnaiabifjaa
