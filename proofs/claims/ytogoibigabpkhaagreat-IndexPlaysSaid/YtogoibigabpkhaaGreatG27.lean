import Derived.Test.YtogoibigabpkhaaGreatJIterM
import Derived.Test.YtogoibigabpkhaaGreatG11
import Derived.Shelf.SlIter.Collect
import Derived.Sort.EveryDepth


/- The library's Collect of the entries that an iterator gives. -/
namespace Go.Proofs.YtogoibigabpkhaaGreat
set_option linter.unusedVariables false
open Go.RowKit Go.Maps Go.Sort Go.Shelf
open Go.Lib (hid)

section
variable {F : Fence} {n : Nat}
theorem inBsE {ops : Array Oper} {rest : List Oper} {op : Oper} {a : Act} {w : World} {Q : Exit → Act → World → Prop} {x : Operand} (e : Ev) (hgd : op.guard = none) (ho : op.op = .buildSlice 23 1 #[(0, x)]) (hx : a.eval x = .agg e.arr)
    (h : ∀ W, Ob W w.heap.size 44 e → Below w.heap.size w W → wpListIn F n Tryz.prog ops Q rest (a.put op.dst (.slice (some ⟨w.heap.size, 0, none⟩) 1 1)) W) : wpListIn F n Tryz.prog ops Q (op :: rest) a w := by
  refine wpListIn_plain hgd fun K hK => ?_
  unfold Oper.wpIn
  refine ⟨by simp [Oper.about, ho], ?_⟩
  rw [Oper.semAt_plain F _ _ (by rw [ho]; intro c hc'; cases hc')]
  unfold execOp
  simp only [ho, List.map_toArray, List.map_cons, List.map_nil, hx, Sem.run_bind, run_bs1 Tryz.underlying23 Tryz.sizeOf44 Tryz.zeroValue44 (Ev.size e) (by decide) (by decide) w, Result.andThen_ok]
  exact hK _ _ (h _ (heap_alloc_new w _) ((Below.refl _ w).alloc (Nat.le_refl _) _))
end

def apAssignE : Code := Code.region 2
  #[{ dst := some 5, op := Op.alloc 44, type := 0, pos := "iter.go:51", after := #[], guard := none },
    { dst := none, op := Op.store 44 (Operand.tmp 5) (Operand.tmp 7), type := 0, pos := "iter.go:51", after := #[{ on := 0, ground := Ground.data }, { on := 0, ground := Ground.phase }], guard := none }] false
def apBodyE : Code := Code.block 1 (Code.region 3
  #[{ dst := some 8, op := Op.load 23 (Operand.tmp 2), type := 23, pos := "iter.go:52", after := #[], guard := none },
    { dst := some 9, op := Op.load 44 (Operand.tmp 5), type := 44, pos := "iter.go:52", after := #[], guard := none },
    { dst := some 10, op := Op.buildSlice 23 1 #[(0, Operand.tmp 9)], type := 23, pos := "iter.go:52", after := #[{ on := 1, ground := Ground.data }], guard := none },
    { dst := some 11, op := Op.call { callee := Callee.builtin Builtin.append, args := #[Operand.tmp 8, Operand.tmp 10], argTypes := #[23, 23] }, type := 23, pos := "iter.go:52", after := #[{ on := 0, ground := Ground.data }, { on := 2, ground := Ground.data }], guard := none },
    { dst := none, op := Op.store 23 (Operand.tmp 2) (Operand.tmp 11), type := 0, pos := "iter.go:52", after := #[{ on := 3, ground := Ground.data }, { on := 3, ground := Ground.chain }, { on := 0, ground := Ground.phase }, { on := 1, ground := Ground.phase }, { on := 2, ground := Ground.phase }, { on := 3, ground := Ground.phase }], guard := none }] false)
def apRecE (fn : FuncId) (sv : Value) (Bs D : Nat) (st : LoopState) (pend : Option Code) : Loop :=
  { state := st, pending := pend, fn, tmps := #[.slice none 0 0, sv, .pointer (some ⟨Bs, 0, none⟩), undef, .slice none 0 0, undef, sv, undef, undef, undef, undef, undef, undef], params := #[7], assign := apAssignE, body := apBodyE, defers := D }
/-- Between two rounds. -/
structure ApE (w0 : World) (fn : FuncId) (sv : Value) (Bs l D : Nat) (es : List Ev) (W : World) : Prop where
  box : ∃ v, W.heap[Bs]? = some (.cells #[v] 23 (0, 0)) ∧ OwnE W w0.heap.size v es
  L : W.heap[l]? = some (.loop (apRecE fn sv Bs D .ready none))
  K : W.heap[D]? = some (.deferred (some []))
  below : Below w0.heap.size w0 W
theorem ap_abidesE (w0 : World) (fn : FuncId) (sv : Value) (Bs l D B : Nat) (hB : w0.heap.size ≤ B) : AbidesFrom B (ApE w0 fn sv Bs l D) := fun s W W' row h hg hrow => by
  have hrow' : ∀ r, row = some r → ∃ o : Obj, W.heap[r]? = some o ∧ o.isWalk = true := fun r e => (hrow r e).2
  obtain ⟨v, hv, hr⟩ := h.box
  exact ⟨⟨v, (grownBy_keeps hg hrow' hv rfl).trans hv, ownsRow_abides_a hr hg hrow'⟩, (grownBy_keeps hg hrow' h.L rfl).trans h.L, (grownBy_keeps hg hrow' h.K rfl).trans h.K,
    h.below.grown hg h.below.size (fun k e => Nat.le_trans hB (hrow k e).1)⟩
theorem hid4 {p q r t : Prop} (a : p) (b : q) (c : r) (d : t) : p ∧ q ∧ r ∧ t := ⟨a, b, c, d⟩
theorem atBelow {B k : Nat} {w w' : World} {o : Obj} (hb : Below B w w') (hk : k < B) (h : w.heap[k]? = some o) : w'.heap[k]? = some o := (hb.5 k hk).trans h

set_option maxRecDepth 100000 in
set_option maxHeartbeats 4000000 in
theorem apYieldE (F : Fence) (m : Nat) (w0 : World) (fn : FuncId) (hfn : F.fn fn) (sv : Value) (Bs l D : Nat) (hBl : Bs ≠ l) (hDl : D ≠ l) (hDB : D ≠ Bs) (h0B : w0.heap.size ≤ Bs) (h0l : w0.heap.size ≤ l)
    (N : Nat) (hN : N ≤ maxLen) (hNb : N * 192 ≤ 140737488355328) (es : List Ev) (x : Ev) (W : World) (h : ApE w0 fn sv Bs l D es W) (hlen : es.length < N) :
    YieldAt F m Tryz.prog l #[.agg x.arr] W fun e W' => e = .returned (.bool true) ∧ ApE w0 fn sv Bs l D (es ++ [x]) W' ∧ KeepsWalks W W' := by
  have hne : (23 : TypeId) ≠ 44 := by decide
  obtain ⟨i0, hi, hz0, hz1, hz2⟩ := info_parts Tryz.infoEz
  obtain ⟨v, hv, hrow⟩ := h.box
  refine ⟨fn, #[.slice none 0 0, sv, .pointer (some ⟨Bs, 0, none⟩), undef, .slice none 0 0, undef, sv, .agg x.arr, undef, undef, undef, undef, undef], apAssignE, apBodyE, by simpa [apRecE] using run_yield (P := Tryz.prog) (args := #[.agg x.arr]) h.L rfl, roundIn_of_wpIn hfn ?_⟩
  have HY := hid h
  have hl : l < W.heap.size := (Array.getElem?_eq_some_iff.1 h.L).1
  have hBlt0 : Bs < W.heap.size := (Array.getElem?_eq_some_iff.1 hv).1
  have hDlt0 : D < W.heap.size := (Array.getElem?_eq_some_iff.1 h.K).1
  have HV0 := hid hv
  have HR0 := hid hrow
  clear h hv hrow
  have ne_own : ∀ {X : World} {u : Value} {j : Nat} {o : Obj}, OwnE X w0.heap.size u es → X.heap[j]? = some o → (∀ cur, o ≠ .cells cur 44 (0, 0)) → some j ≠ u.ownBlock := fun hr hj hno => by
    rcases ownsRow_ne_a hr hj hno with e | e
    · rw [e]; simp
    · exact fun e' => e e'.symm
  unfold apAssignE
  gi_wp2_with (first
    | ((with_reducible refine inStoreC (x := ?sx1) (y := ?sy1) (b := ?sb1) (T := 44) x ?sg1 ?so1 ?sxx1 ?syy1 ?sc1 ?_); (case sg1 => rfl); (case so1 => rfl); (case sxx1 => rfl); (case syy1 => rfl); (case sc1 => exact zeroRoom W); intro W1 hO1 hU1
       have hb1 : Below W.heap.size W W1 := ((Below.refl _ W).alloc (Nat.le_refl _) _).trans (hU1.below _ (Nat.le_refl _))
       have hL1 := atBelow hb1 hl HY.out.L
       have hs1 := hb1.size
       have hbr := run_beginRound (P := Tryz.prog) hL1 rfl
       obtain ⟨W2, hW2⟩ : ∃ W2, W1.putObj l (.loop { apRecE fn sv Bs D .ready none with state := .busy }) = W2 := ⟨_, rfl⟩
       rw [hW2] at hbr
       have hg2 : W1.grownBy W2 (some l) := by rw [← hW2]; exact grownBy_putObj_a _ _ _
       have hg1 := grownBelow hb1 none
       have HK2 := hid ((KeepsWalks.of_grownBy hg1 (fun j o e => by cases e)).trans (by rw [← hW2]; exact KeepsWalks.putObj _ hL1 rfl) : KeepsWalks W W2)
       have HV2 := hid (by rw [← hW2]; exact (World.putObj_heap_other hBl).trans (atBelow hb1 hBlt0 HV0.out) : W2.heap[Bs]? = some (.cells #[v] 23 (0, 0)))
       have HD2 := hid (by rw [← hW2]; exact (World.putObj_heap_other hDl).trans (atBelow hb1 hDlt0 HY.out.K) : W2.heap[D]? = some (.deferred (some [])))
       have HL2 := hid (by rw [← hW2]; exact World.putObj_heap_same (by omega) : W2.heap[l]? = some (.loop { apRecE fn sv Bs D .ready none with state := .busy }))
       have HR2 := hid ((OwnG.on HR0.out hb1).kept hg2 (ownsRow_ne_a (OwnG.on HR0.out hb1) hL1 (fun cur e => by first | cases e | exact hne (Obj.cells.inj e).2.1)) : OwnE W2 w0.heap.size v es)
       have HB2 := hid ((HY.out.below.trans (hb1.mono HY.out.below.size)).grown hg2 (Nat.le_trans HY.out.below.size hb1.size) (fun k e => by cases e; exact h0l) : Below w0.heap.size w0 W2)
       have HO2 := hid (by rw [← hW2]; exact (World.putObj_heap_other (by omega)).trans hO1 : Ob W2 W.heap.size 44 x)
       have hsz2 := hg2.size
       clear hW2 hb1 hL1 hO1 hU1 hg1)
    | gi_round_op_a)
  have hBlt : Bs < W2.heap.size := by omega
  have hl2 : l < W2.heap.size := by omega
  have hDlt : D < W2.heap.size := by omega
  clear hg2
  have hc4 : W2.cell? ⟨Bs, 0, none⟩ = some v := (cell_of_box_a HV2.out).1
  unfold apBodyE
  gi_wp2_with (first
    | ((with_reducible refine inLoadC (x := ?cx1) (b := ?cb1) (T := 44) x ?cg1 ?co1 ?cxx1 ?cc1 ?_); (case cg1 => rfl); (case co1 => rfl); (case cxx1 => rfl); (case cc1 => exact HO2.out))
    | ((with_reducible refine inBsE (x := ?bx2) x ?bg2 ?bo2 ?bv2 ?_); (case bg2 => rfl); (case bo2 => rfl); (case bv2 => rfl); intro W5 hO5 hB5; have HO5 := hid hO5; have HB5 := hid hB5; have hs5 := HB5.out.size; have hs2 := HB2.out.size; have HR5 := hid (OwnG.on HR2.out HB5.out); have HV5 := hid (atBelow HB5.out hBlt HV2.out); have HL5 := hid (atBelow HB5.out hl2 HL2.out); have HK5 := hid (atBelow HB5.out hDlt HD2.out); have HK25 := hid (KeepsWalks.of_grownBy (grownBelow HB5.out none) (fun j o e => by cases e)); clear hO5 hB5)
    | (gi_at_builtin; refine wpListIn_append_own _ rfl _ _ 23 rfl w0.heap.size 44 i0 _ 19 192 Tryz.underlying23 hi hz0 hz1 hz2 rfl (by decide) v es.length _ rfl HR5.out ⟨W2.heap.size, 0, none⟩ 1 1 x.list rfl (kE x) (newCells HO5.out) (oneE x) (by omega) (by omega) (Nat.le_trans hs2 hs5) ?_; intro v' w3 hown' hg3 hnil3
       have hown3 : OwnE w3 w0.heap.size v' (es ++ [x]) := by (unfold OwnE OwnG; rw [flatG_append, flatG_one, List.length_append, List.length_singleton]; exact hown')
       have hv3 : w3.heap[Bs]? = some (.cells #[v] 23 (0, 0)) := (hg3.block Bs (by omega) (ne_own HR5.out HV5.out (fun cur e => by first | cases e | exact hne (Obj.cells.inj e).2.1))).trans HV5.out
       obtain ⟨hc3, hf3⟩ := cell_of_box_a hv3
       have hL3 : w3.heap[l]? = some (.loop { apRecE fn sv Bs D .ready none with state := .busy }) := (hg3.block l (by omega) (ne_own HR5.out HL5.out (fun cur e => by first | cases e | exact hne (Obj.cells.inj e).2.1))).trans HL5.out
       have hK3 : w3.heap[D]? = some (.deferred (some [])) := (hg3.block D (by omega) (ne_own HR5.out HK5.out (fun cur e => by first | cases e | exact hne (Obj.cells.inj e).2.1))).trans HK5.out
       have hb3 : Below w0.heap.size w0 w3 := (HB2.out.trans (HB5.out.mono hs2)).grown hg3 (Nat.le_trans hs2 hs5) (fun k e => (HR5.out.lt k e).1)
       have hk3 : KeepsWalks W w3 := (HK2.out.trans HK25.out).trans (KeepsWalks.of_grownBy hg3 (ownsRow_not_walk_a HR5.out))
       obtain ⟨g', cap', n', rfl, -⟩ := hown3.asSlice
       have HH := hid (hid4 hown3 hv3 hL3 hK3)
       have HHb := hid hb3
       have HHk := hid hk3
       clear hown' hown3 hv3 hL3 hK3 hb3 hk3 hg3 hnil3
       go_frame)
    | gi_round_op_a)
  obtain ⟨hown3, hv3, hL3, hK3⟩ := HH.out
  have hb3 := HHb.out
  have hk3 := HHk.out
  obtain ⟨w4, hw4⟩ : ∃ w4, w3.setCell ⟨Bs, 0, none⟩ (.slice g' n' cap') = w4 := ⟨_, rfl⟩
  rw [hw4]
  have hg4 : w3.grownBy w4 (some Bs) := by rw [← hw4]; exact grownBy_setCell0_a _ _ _
  have hv4 : w4.heap[Bs]? = some (.cells #[.slice g' n' cap'] 23 (0, 0)) := by rw [← hw4]; exact heap_setCell_box_a _ hv3
  have hL4 : w4.heap[l]? = some (.loop { apRecE fn sv Bs D .ready none with state := .busy }) := (hg4.block l (Array.getElem?_eq_some_iff.1 hL3).1 (fun e => hBl (by cases e; rfl))).trans hL3
  have hK4 : w4.heap[D]? = some (.deferred (some [])) := (hg4.block D (Array.getElem?_eq_some_iff.1 hK3).1 (fun e => hDB (by cases e; rfl))).trans hK3
  have hrow4 := hown3.kept hg4 (ownsRow_ne_a hown3 hv3 (fun cur e => by first | cases e | exact hne (Obj.cells.inj e).2.1))
  have hl4 : l < w4.heap.size := (Array.getElem?_eq_some_iff.1 hL4).1
  have hb4 : Below w0.heap.size w0 w4 := hb3.grown hg4 hb3.size (fun k e => by cases e; exact h0B)
  have hk4 : KeepsWalks W w4 := hk3.trans (by rw [← hw4]; exact KeepsWalks.setCell _ _ _)
  clear hw4
  refine ⟨_, _, run_endRound none hL4, rfl, ⟨⟨_, (World.putObj_heap_other hBl).trans hv4, ?_⟩, World.putObj_heap_same hl4, (World.putObj_heap_other hDl).trans hK4, hb4.grown (grownBy_putObj_a _ _ _) hb4.size (fun k e => by cases e; exact h0l)⟩, hk4.trans (KeepsWalks.putObj _ hL4 rfl)⟩
  exact hrow4.kept (grownBy_putObj_a w4 l (.loop { { apRecE fn sv Bs D .ready none with state := .busy } with state := if (none : Option Code).isNone then .ready else .done, pending := none })) (ownsRow_ne_a hrow4 hL4 (fun cur e => by first | cases e | exact hne (Obj.cells.inj e).2.1))
end Go.Proofs.YtogoibigabpkhaaGreat

/- slices.AppendSeq, slices.Collect, maps.Values: the entries of the journal's map, each once, in some order. -/
namespace Go.Proofs.YtogoibigabpkhaaGreat
set_option linter.unusedVariables false
open Go.RowKit Go.Maps Go.Sort Go.Shelf
open Go.Lib (hid)

abbrev encE (e : Ev) : Value := .agg e.arr
set_option maxRecDepth 100000 in
set_option maxHeartbeats 2000000 in
theorem appendSeqE (F : Fence) (n : Nat) (h11 : F.fn 104) (hro : F.round = none) (hn : 2 ≤ n) (g : Nat) (lb : Array Value) (hFg : F.fn g) (eg : ∀ args w, (callFunc g args).run Tryz.prog w = .ok (.enter g args) w)
    (S : List Ev → Prop) (N : Nat) (hN : N ≤ maxLen) (hNb : N * 192 ≤ 140737488355328) (w : World) (hseq : SeqGives F (n - 1) Tryz.prog g lb encE S N w) :
    CallsIn F n Tryz.prog 104 #[.slice none 0 0, .func (.func g) #[] lb] w fun e w' => ∃ (v : Value) (es : List Ev), e = .returned v ∧ S es ∧ OwnE w' w.heap.size v es ∧ Below w.heap.size w w' := by
  have h1 : 1 ≤ n := by omega
  have hne : (23 : TypeId) ≠ 44 := by decide
  refine callsIn_of_wp_marks Tryz.func104 rfl h11 ?_ hro
  simp only [Tryz.ntmps104, List.size_toArray, List.length_cons, List.length_nil, Nat.reduceAdd, Nat.reduceSub, Array.replicate_succ, Array.replicate_zero, List.push_toArray, List.append_toArray, List.nil_append, List.cons_append]
  gi_wp2
  refine wpIn_rangeFunc ?_
  intro fn hfn
  rw [hro]
  obtain ⟨W0, hW0⟩ : ∃ W0, w.alloc (.cells #[.slice none 0 0] 23) = W0 := ⟨_, rfl⟩
  have hs0 : W0.heap.size = w.heap.size + 1 := by rw [← hW0]; simp
  have hv0 : W0.heap[w.heap.size]? = some (.cells #[.slice none 0 0] 23 (0, 0)) := by rw [← hW0]; exact World.alloc_heap_new w _
  have hb0 : Below w.heap.size w W0 := by rw [← hW0]; exact (Below.refl _ w).alloc (Nat.le_refl _) _
  rw [hW0]
  obtain ⟨W1, hW1⟩ : ∃ W1, (W0.alloc (.deferred (some []))).alloc (.loop (apRecE fn (.func (.func g) #[] lb) w.heap.size W0.heap.size .ready none)) = W1 := ⟨_, rfl⟩
  have hold : ∀ k, k < W0.heap.size → W1.heap[k]? = W0.heap[k]? := fun k hk => by
    rw [← hW1]; exact (Below.heap_alloc _ _ k (by simp; omega)).trans (Below.heap_alloc _ _ k hk)
  have hb1 : Below w.heap.size w W1 := by rw [← hW1]; exact (hb0.alloc hb0.size _).alloc (by have := hb0.size; simp; omega) _
  have hs1 : W1.heap.size = W0.heap.size + 2 := by rw [← hW1]; simp
  have hM : ApE w fn (.func (.func g) #[] lb) w.heap.size (W0.heap.size + 1) W0.heap.size [] W1 :=
    ⟨⟨_, (hold w.heap.size (by omega)).trans hv0, OwnG.nil _ _ _ _ _⟩,
     by rw [← hW1]; have := World.alloc_heap_new (W0.alloc (.deferred (some []))) (.loop (apRecE fn (.func (.func g) #[] lb) w.heap.size W0.heap.size .ready none)); rwa [World.size_alloc] at this,
     by rw [← hW1]; exact (Below.heap_alloc _ _ _ (by simp)).trans (World.alloc_heap_new W0 _), hb1⟩
  refine ⟨W0.heap.size + 1, [{ target := .collected W0.heap.size, args := #[] }], W1, { target := .fn (.func g) lb, args := #[.func (.yield (W0.heap.size + 1)) #[] #[]] }, W1, g,
    #[.func (.yield (W0.heap.size + 1)) #[] #[]] ++ lb, W1, ?_, ?_, ?_, ?_, fun _ => h1, ?_⟩
  · rw [← hW1]; exact run_enterLoop_outer _ _ _ _ _
  · simp [resolve, go_sem]
  · intro f' hf'; simp [Target.leads] at hf'; subst hf'; exact hFg
  · simp [invoke, go_sem, eg]
  · refine (hseq (W0.heap.size + 1) (ApE w fn (.func (.func g) #[] lb) w.heap.size (W0.heap.size + 1) W0.heap.size) W1 hb1 (ap_abidesE _ _ _ _ _ _ _ hb1.size)
      (fun pre x W hJ hl => apYieldE F (n - 1 - 1) w fn hfn _ w.heap.size (W0.heap.size + 1) W0.heap.size (by omega) (by omega) (by omega) (Nat.le_refl _) (by omega) N hN hNb pre x W hJ hl) hM).mono ?_
    rintro e W2 ⟨⟨v0, rfl⟩, ss, hS, h2⟩
    obtain ⟨v, hv, hrow⟩ := h2.box
    have hend := run_endLoop (P := Tryz.prog) h2.L (by simp [apRecE])
    obtain ⟨W3, hW3⟩ : ∃ W3, W2.putObj (W0.heap.size + 1) (.loop { apRecE fn (.func (.func g) #[] lb) w.heap.size W0.heap.size .ready none with state := .exhausted }) = W3 := ⟨_, rfl⟩
    rw [hW3] at hend
    have hg3 : W2.grownBy W3 (some (W0.heap.size + 1)) := by rw [← hW3]; exact grownBy_putObj_a _ _ _
    have hv3 : W3.heap[w.heap.size]? = some (.cells #[v] 23 (0, 0)) := by rw [← hW3]; exact (World.putObj_heap_other (by omega)).trans hv
    have hK3 : W3.heap[W0.heap.size]? = some (.deferred (some [])) := by rw [← hW3]; exact (World.putObj_heap_other (by omega)).trans h2.K
    have hrow3 := hrow.kept hg3 (ownsRow_ne_a hrow h2.L (fun cur e => by first | cases e | exact hne (Obj.cells.inj e).2.1))
    have hb3 : Below w.heap.size w W3 := h2.below.grown hg3 h2.below.size (fun k e => by cases e; omega)
    obtain ⟨hc3, hf3⟩ := cell_of_box_a hv3
    clear hW3
    refine ⟨none, W3, hend, ?_⟩
    gi_wp2
    rw [← hs0]
    refine ⟨by simp, .inl ⟨_, _, rfl, run_takeDeferred hK3, ?_⟩⟩
    exact ⟨_, results_tmp rfl _ _ _, v, ss, rfl, hS, hrow3.kept (grownBy_putObj_a _ _ _) (ownsRow_ne_a hrow3 hK3 (fun cur e => by first | cases e | exact hne (Obj.cells.inj e).2.1)), hb3.grown (grownBy_putObj_a _ _ _) hb3.size (fun k e => by cases e; omega)⟩
set_option maxHeartbeats 1000000 in
theorem collectE (F : Fence) (n : Nat) (h8 : F.fn 79) (h11 : F.fn 104) (hro : F.round = none) (hn : 3 ≤ n) (g : Nat) (lb : Array Value) (hFg : F.fn g) (eg : ∀ args w, (callFunc g args).run Tryz.prog w = .ok (.enter g args) w)
    (S : List Ev → Prop) (N : Nat) (hN : N ≤ maxLen) (hNb : N * 192 ≤ 140737488355328) (w : World) (hseq : SeqGives F (n - 1 - 1) Tryz.prog g lb encE S N w) :
    CallsIn F n Tryz.prog 79 #[.func (.func g) #[] lb] w fun e w' => ∃ (v : Value) (es : List Ev), e = .returned v ∧ S es ∧ OwnE w' w.heap.size v es ∧ Below w.heap.size w w' := by
  have h1 : 1 ≤ n := by omega
  have e11 : ∀ args w, (callFunc 104 args).run Tryz.prog w = .ok (.enter 104 args) w := enters_of Tryz.func104 (by kernel_rfl) rfl
  refine callsIn_of_wp Tryz.func79 rfl h8 ?_ hro
  simp only [Tryz.ntmps79, List.size_toArray, List.length_cons, List.length_nil, Nat.reduceAdd, Nat.reduceSub, Array.replicate_succ, Array.replicate_zero, List.push_toArray, List.append_toArray, List.nil_append, List.cons_append]
  gi_wp2_with (gi_at_fn 104; refine (appendSeqE F (n - 1) h11 hro (by omega) g lb hFg eg S N hN hNb _ hseq).mono ?_; rintro e w' ⟨v, es, rfl, hS, hrow, hb⟩)
  go_ret
  exact ⟨v, es, rfl, hS, hrow, hb⟩

/-- What maps.Values hands back gives all that the map holds, each once. -/
theorem valuesGives (F : Fence) (n : Nat) (h60 : F.fn 81) (hro : F.round = none) (hn : 1 ≤ n) (Bm b nn : Nat) (xs : List En) (w : World) (hBm : Bm < w.heap.size)
    (hm : w.cell? ⟨Bm, 0, none⟩ = some (Value.map (some b))) (hown : Mp w b nn xs) : SeqGives F n Tryz.prog 81 #[.pointer (some ⟨Bm, 0, none⟩)] encE (AllOf xs) nn w := fun l J W hW hJ hY h0 =>
  values1_in F n h60 hro hn l Bm b nn xs J hY W hJ ((hW.cell (p := ⟨Bm, 0, none⟩) hBm).trans hm) (hown.on hW) h0
theorem cCollect (Bm b nn : Nat) (xs : List En) (w : World) (hBm : Bm < w.heap.size) (hm : w.cell? ⟨Bm, 0, none⟩ = some (Value.map (some b))) (hown : Mp w b nn xs) (hN : nn ≤ 100000) :
    Calls Tryz.prog 79 #[.func (.func 81) #[] #[.pointer (some ⟨Bm, 0, none⟩)]] w fun e w' => ∃ (v : Value) (es : List Ev), e = .returned v ∧ AllOf xs es ∧ OwnE w' w.heap.size v es ∧ Below w.heap.size w w' :=
  calls_of_every_depth (L := [79, 104, 81]) (n := 5) fun D =>
    collectE _ 5 (by simp [Fence.list]) (by simp [Fence.list]) rfl (by decide) _ _ (by simp [Fence.list]) (enters_of Tryz.func81 (by kernel_rfl) rfl) _ nn (by unfold maxLen; omega) (by omega) w (valuesGives _ _ (by simp [Fence.list]) rfl (by decide) Bm b nn xs w hBm hm hown)
end Go.Proofs.YtogoibigabpkhaaGreat
