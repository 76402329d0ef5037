import Derived.Test.YtpkkmfppdhjpkaaGreatGa09
/- Entries by value: the document's Finish and Vote. -/
namespace Go.Proofs.YtpkkmfppdhjpkaaGreat
set_option linter.unusedVariables false
open Go.RowKit
open Go.Lib (hid)

theorem rangeOf {W : World} {q : Nat} {e : Ev} {T : TypeId} (h : W.heap[q]? = some (.cells e.arr T (0, 0))) : W.rangeAt q 0 e.list := fun j v hv => by
  rw [Nat.zero_add, cellAt' h, ← Ev.toList] at *
  simpa using hv
theorem thereOf {W : World} {q n : Nat} {C : Array Value} {T : TypeId} (h : W.heap[q]? = some (.cells C T (0, 0))) (hn : n ≤ C.size) : W.there q 0 n := fun j hj => by
  rw [Nat.zero_add]
  refine ⟨?_, frozenAt h j⟩
  rw [cellAt' h, Array.getElem?_eq_getElem (by omega)]; rfl
theorem box3_heap (w : World) (a b c : Obj) : (((w.alloc a).alloc b).alloc c).heap[w.heap.size]? = some a ∧ (((w.alloc a).alloc b).alloc c).heap[w.heap.size + 1]? = some b ∧ (((w.alloc a).alloc b).alloc c).heap[w.heap.size + 2]? = some c := by
  refine ⟨(Below.heap_alloc _ _ _ (by simp; omega)).trans ((Below.heap_alloc _ _ _ (by simp)).trans (heap_alloc_new w a)), (Below.heap_alloc _ _ _ (by simp)).trans ?_, ?_⟩
  · have := heap_alloc_new (w.alloc a) b; simpa using this
  · have := heap_alloc_new ((w.alloc a).alloc b) c; simpa [Nat.add_assoc] using this
theorem box3_below (w : World) (a b c : Obj) : Below w.heap.size w (((w.alloc a).alloc b).alloc c) := (((Below.refl _ w).alloc (Nat.le_refl _) _).alloc (by simp) _).alloc (by simp; omega) _

theorem loadE {ops : Array Oper} {rest : List Oper} {op : Oper} {a : Act} {w : World} {Q : Exit → Act → World → Prop} {x : Operand} {b : Nat} (e : Ev) (hgd : op.guard = none) (ho : op.op = .load 44 x)
    (hx : a.eval x = .pointer (some ⟨b, 0, none⟩)) (hc : w.rangeAt b 0 e.list) (h : wpList Tryz.prog ops Q rest (a.put op.dst (.agg e.arr)) w) : wpList Tryz.prog ops Q (op :: rest) a w :=
  wpList_load_mid hgd 44 x ho b 0 hx e.list _ hc Tryz.underlying44 rfl (infoE e) h
theorem storeE {ops : Array Oper} {rest : List Oper} {op : Oper} {a : Act} {w : World} {Q : Exit → Act → World → Prop} {x y : Operand} {b : Nat} (e : Ev) (hgd : op.guard = none) (ho : op.op = .store 44 x y)
    (hx : a.eval x = .pointer (some ⟨b, 0, none⟩)) (hy : a.eval y = .agg e.arr) (ht : w.there b 0 19) (h : wpList Tryz.prog ops Q rest (a.put op.dst undef) (w.setCells b 0 e.arr.toList)) : wpList Tryz.prog ops Q (op :: rest) a w :=
  wpList_store_mid hgd 44 x y ho b 0 e.arr hx hy ht (infoE' e) (Ev.one e) h

def finE (e : Ev) (t : Int) (p : Sv) (full same : Bool) : Ev × Int := if full = false then (e, 1) else if e.dn = true ∧ same = false then (e, 6) else ({ e with dn := true, vt := t, vp := p }, 0)
def votE (e : Ev) (t : Int) (p : Sv) (full same none : Bool) : Ev × Int := if full = false then (e, 1) else if same = true then (e, 0) else if none = false then (e, 6) else ({ (resE e t).1 with ft := t, fp := p }, 0)

end Go.Proofs.YtpkkmfppdhjpkaaGreat
