import Derived.Test.YtogoibigabpkhaaGreatG08
import Derived.Deep.Heap
import Derived.Deep.Upon
import Derived.BigRegion
import Derived.Test.YtogoibigabpkhaaGreatG06
import Derived.WalkMore
import Derived.Lib.SliceRun
import Derived.ScopeJumps
/- Entries in their blocks: a block that holds an entry, what a store of a whole entry, and of a part, leaves. -/

namespace Go.Proofs.YtogoibigabpkhaaGreat
set_option linter.unusedVariables false
open Go.RowKit
open Go.Lib (hid)
open Go.Deep (blk_setCell_other nblk_setCell)

theorem infoEc (e : Ev) : (Tryz.prog.info? 44).map (·.size) = some e.list.length := by rw [Ev.len]; kernel_rfl
theorem infoEc' (e : Ev) : (Tryz.prog.info? 44).map (·.size) = some e.arr.size := by rw [Ev.size]; kernel_rfl
/-- Block q holds an entry. -/
abbrev Ob (w : World) (q : Nat) (T : TypeId) (e : Ev) : Prop := w.heap[q]? = some (.cells e.arr T (0, 0))
theorem setsAll {q : Nat} {t : TypeId} : ∀ (vs : List Value) (o : Nat) (C : Array Value) (w : World), w.heap[q]? = some (.cells C t (0, 0)) →
    ∃ C', (w.setCells q o vs).heap[q]? = some (.cells C' t (0, 0)) ∧ C'.size = C.size ∧ (∀ j, j < o → C'[j]? = C[j]?) ∧ ∀ j, j < vs.length → o + j < C.size → C'[o + j]? = vs[j]?
  | [], o, C, w, h => ⟨C, h, rfl, fun _ _ => rfl, fun j hj => absurd hj (by simp)⟩
  | v :: vs, o, C, w, h => by
    obtain ⟨C', h1, h2, h3, h4⟩ := setsAll vs (o + 1) _ (w.setCell ⟨q, o, none⟩ v) (setAt h)
    refine ⟨C', h1, h2.trans (by simp), fun j hj => ?_, fun j hj hs => ?_⟩
    · rw [h3 j (by omega), Array.getElem?_setIfInBounds]; simp; omega
    · cases j with
      | zero =>
        rw [Nat.add_zero, h3 o (by omega), Array.getElem?_setIfInBounds]
        simp; omega
      | succ j =>
        have := h4 j (by simp at hj; omega) (by simp; omega)
        rw [show o + (j + 1) = o + 1 + j by omega, this]; rfl
theorem setsOb {w : World} {q : Nat} {T : TypeId} {C : Array Value} (e : Ev) (h : w.heap[q]? = some (.cells C T (0, 0))) (hs : C.size = 19) : Ob (w.setCells q 0 e.arr.toList) q T e := by
  obtain ⟨C', h1, h2, _, h4⟩ := setsAll e.arr.toList 0 C w h
  have : C' = e.arr := by
    apply Array.ext_getElem?
    intro j
    by_cases hj : j < 19
    · have := h4 j (by rw [Ev.toList, Ev.len]; exact hj) (by omega)
      rw [Nat.zero_add] at this
      rw [this]; simp
    · rw [Array.getElem?_eq_none (by omega), Array.getElem?_eq_none (by rw [Ev.size]; omega)]
  subst this
  exact h1
/-- What a store into one block leaves of the others. -/
structure Upd (q : Nat) (w W : World) : Prop where
  size : W.heap.size = w.heap.size
  other : ∀ k, k < w.heap.size → k ≠ q → W.heap[k]? = w.heap[k]?
  below : ∀ B, B ≤ q → Below B w W
theorem setsUpd (w : World) (q : Nat) (vs : List Value) : Upd q w (w.setCells q 0 vs) := by
  refine ⟨?_, fun k hk hne => World.heap_setCells_other w q 0 vs hk hne, fun B hB => below_cells hB _ _ _ (Below.refl _ _)⟩
  have : ∀ (vs : List Value) (o : Nat) (w : World), (w.setCells q o vs).heap.size = w.heap.size := by
    intro vs
    induction vs with
    | nil => intro o w; rfl
    | cons v vs ih => intro o w; exact (ih (o + 1) _).trans (nblk_setCell w _ v)
  exact this vs 0 w
theorem Upd.ob {q k : Nat} {w W : World} (h : Upd q w W) {o : Obj} (hk : w.heap[k]? = some o) (hne : k ≠ q) : W.heap[k]? = some o := (h.other k (Array.getElem?_eq_some_iff.1 hk).1 hne).trans hk
theorem Ob.range {w : World} {q : Nat} {T : TypeId} {e : Ev} (h : Ob w q T e) : w.rangeAt q 0 e.list := rangeOf h
theorem Ob.cell {w : World} {q : Nat} {T : TypeId} {e : Ev} (h : Ob w q T e) {j : Nat} {v : Value} (hv : e.list[j]? = some v) : w.cell? ⟨q, j, none⟩ = some v := by
  have := h.range j v hv; rwa [Nat.zero_add] at this
theorem Ob.free {w : World} {q : Nat} {T : TypeId} {e : Ev} (h : Ob w q T e) (j : Nat) : w.frozen? ⟨q, j, none⟩ = false := frozenAt h j
theorem Ob.set {w : World} {q j : Nat} {T : TypeId} {e e' : Ev} {v : Value} (h : Ob w q T e) (he : e.arr.setIfInBounds j v = e'.arr) : Ob (w.setCell ⟨q, j, none⟩ v) q T e' := by
  have := setAt (j := j) (x := v) h
  rwa [he] at this
theorem setOther {w : World} {q j k : Nat} {v : Value} {o : Obj} (h : w.heap[k]? = some o) (hne : k ≠ q) : (w.setCell ⟨q, j, none⟩ v).heap[k]? = some o := (blk_setCell_other w ⟨q, j, none⟩ v k hne).trans h

/-- Block q has room for an entry. -/
def Room (w : World) (q : Nat) (T : TypeId) : Prop := ∃ C : Array Value, w.heap[q]? = some (.cells C T (0, 0)) ∧ C.size = 19
theorem Ob.room {w : World} {q : Nat} {T : TypeId} {e : Ev} (h : Ob w q T e) : Room w q T := ⟨_, h, e.size⟩
theorem loadR {ops : Array Oper} {rest : List Oper} {op : Oper} {a : Act} {w : World} {Q : Exit → Act → World → Prop} {x : Operand} {b : Nat} (e : Ev) (hgd : op.guard = none) (ho : op.op = .load 74 x)
    (hx : a.eval x = .pointer (some ⟨b, 0, none⟩)) {T : TypeId} (hc : Ob w b T e) (h : wpList Tryz.prog ops Q rest (a.put op.dst (.agg e.arr)) w) : wpList Tryz.prog ops Q (op :: rest) a w :=
  wpList_load_mid hgd 74 x ho b 0 hx e.list _ hc.range Tryz.underlying74 rfl (infoE e) h
theorem loadC {ops : Array Oper} {rest : List Oper} {op : Oper} {a : Act} {w : World} {Q : Exit → Act → World → Prop} {x : Operand} {b : Nat} (e : Ev) (hgd : op.guard = none) (ho : op.op = .load 44 x)
    (hx : a.eval x = .pointer (some ⟨b, 0, none⟩)) {T : TypeId} (hc : Ob w b T e) (h : wpList Tryz.prog ops Q rest (a.put op.dst (.agg e.arr)) w) : wpList Tryz.prog ops Q (op :: rest) a w :=
  wpList_load_mid hgd 44 x ho b 0 hx e.list _ hc.range Tryz.underlying44 rfl (infoEc e) h
/-- A whole entry goes into a block; the world behind it has no other name. -/
theorem storeR {ops : Array Oper} {rest : List Oper} {op : Oper} {a : Act} {w : World} {Q : Exit → Act → World → Prop} {x y : Operand} {b : Nat} {T : TypeId} (e : Ev) (hgd : op.guard = none) (ho : op.op = .store 74 x y)
    (hx : a.eval x = .pointer (some ⟨b, 0, none⟩)) (hy : a.eval y = .agg e.arr) (hC : Room w b T) (h : ∀ W, Ob W b T e → Upd b w W → wpList Tryz.prog ops Q rest (a.put op.dst undef) W) : wpList Tryz.prog ops Q (op :: rest) a w := by
  obtain ⟨C, hC, hs⟩ := hC
  exact wpList_store_mid hgd 74 x y ho b 0 e.arr hx hy (thereOf hC (by rw [hs]; exact Nat.le_refl _)) (infoE' e) (Ev.one e) (h _ (setsOb e hC hs) (setsUpd w b _))
theorem storeC {ops : Array Oper} {rest : List Oper} {op : Oper} {a : Act} {w : World} {Q : Exit → Act → World → Prop} {x y : Operand} {b : Nat} {T : TypeId} (e : Ev) (hgd : op.guard = none) (ho : op.op = .store 44 x y)
    (hx : a.eval x = .pointer (some ⟨b, 0, none⟩)) (hy : a.eval y = .agg e.arr) (hC : Room w b T) (h : ∀ W, Ob W b T e → Upd b w W → wpList Tryz.prog ops Q rest (a.put op.dst undef) W) : wpList Tryz.prog ops Q (op :: rest) a w := by
  obtain ⟨C, hC, hs⟩ := hC
  exact wpList_store_mid hgd 44 x y ho b 0 e.arr hx hy (thereOf hC (by rw [hs]; exact Nat.le_refl _)) (infoEc' e) (Ev.one e) (h _ (setsOb e hC hs) (setsUpd w b _))
/-- The same where the walk has run half of the store. -/
theorem uponStore {op : Oper} {a : Act} {w : World} {K : Act → World → Prop} {Q : Exit → Act → World → Prop} {q : Nat} {T : TypeId} {e : Ev} (hC : Room w q T) (h : ∀ W, Ob W q T e → Upd q w W → K (a.put op.dst undef) W) :
    Oper.upon Tryz.prog op a K Q ((Sem.run Tryz.prog (storeCells ⟨q, 0, none⟩ e.arr.toList) w).andThen fun _ w' => Result.ok Next.skip w') := by
  obtain ⟨C, hC, hs⟩ := hC
  have ht : w.there q 0 19 := thereOf hC (by rw [hs]; exact Nat.le_refl _)
  have hl : e.arr.toList.length = 19 := by rw [Ev.toList]; rfl
  have hr : Sem.run Tryz.prog (storeCells ⟨q, 0, none⟩ e.arr.toList) w = .ok () (w.setCells q 0 e.arr.toList) :=
    run_storeCells_cells (P := Tryz.prog) q 0 e.arr.toList 0 w (fun j hj => (ht j (by omega)).1) (fun j hj => (ht j (by omega)).2) (fun v hv => (Array.all_eq_true_iff_forall_mem.1 (Ev.one e)) v (by simpa using hv))
  rw [hr]
  exact h _ (setsOb e hC hs) (setsUpd w q _)
/-- The world loses its make. -/
theorem opaqueW {P : Program} {ops : Array Oper} {l : List Oper} {a : Act} {Q : Exit → Act → World → Prop} (w : World) (h : ∀ W, W = w → wpList P ops Q l a W) : wpList P ops Q l a w := h w rfl
abbrev zeroEc : Obj := .cells #[.int .i64 0, .int .i64 0, .int .i64 0, .int .i64 0, .int .i64 0, .int .i64 0, .int .i64 0, .int .i64 0, .int .i64 0, .int .i64 0, .int .i64 0, .slice none 0 0, .int .i64 0, .int .i64 0, .slice none 0 0, .bool false, .bool false, .int .i64 0, .slice none 0 0] 44
abbrev zE : Ev := ⟨⟨0, 0, 0, 0, 0, 0, 0⟩, 0, 0, 0, 0, ⟨none, 0, 0⟩, 0, 0, ⟨none, 0, 0⟩, false, false, 0, ⟨none, 0, 0⟩⟩
theorem obAlloc {k : Nat} {o x : Obj} {W : World} (h : W.heap[k]? = some o) : (W.alloc x).heap[k]? = some o := (Below.heap_alloc _ _ _ (Array.getElem?_eq_some_iff.1 h).1).trans h
theorem obDrew {k : Nat} {o : Obj} {W : World} (h : W.heap[k]? = some o) : W.drew.heap[k]? = some o := h
theorem belowDrew {B : Nat} {w W : World} (h : Below B w W) : Below B w W.drew := ⟨h.1, h.2, h.3, h.4, h.5⟩
theorem laid1_0 (w : World) (o0 : Obj) : (w.alloc o0).heap[w.heap.size]? = some o0 := by
  have h0 : (w.alloc o0).heap[w.heap.size]? = some o0 := (heap_alloc_new w o0)
  exact h0
theorem laid1_b (w : World) (o0 : Obj) : Below w.heap.size w (w.alloc o0) := ((Below.refl w.heap.size w).alloc (Nat.le_refl _) o0)
theorem laid2_0 (w : World) (o0 o1 : Obj) : ((w.alloc o0).alloc o1).heap[w.heap.size]? = some o0 := by
  have h0 : (w.alloc o0).heap[w.heap.size]? = some o0 := (heap_alloc_new w o0)
  have ho1 : ((w.alloc o0).alloc o1).heap[w.heap.size]? = some o0 := (Below.heap_alloc _ _ _ (by simp; try omega)).trans h0
  exact ho1
theorem laid2_1 (w : World) (o0 o1 : Obj) : ((w.alloc o0).alloc o1).heap[w.heap.size + 1]? = some o1 := by
  have h1 : ((w.alloc o0).alloc o1).heap[w.heap.size + 1]? = some o1 := (by have := heap_alloc_new (w.alloc o0) o1; simpa [Nat.add_assoc] using this)
  exact h1
theorem laid2_b (w : World) (o0 o1 : Obj) : Below w.heap.size w ((w.alloc o0).alloc o1) := (((Below.refl w.heap.size w).alloc (Nat.le_refl _) o0).alloc (by simp; try omega) o1)
theorem laid3_0 (w : World) (o0 o1 o2 : Obj) : (((w.alloc o0).alloc o1).alloc o2).heap[w.heap.size]? = some o0 := by
  have h0 : (w.alloc o0).heap[w.heap.size]? = some o0 := (heap_alloc_new w o0)
  have ho1 : ((w.alloc o0).alloc o1).heap[w.heap.size]? = some o0 := (Below.heap_alloc _ _ _ (by simp; try omega)).trans h0
  have ho2 : (((w.alloc o0).alloc o1).alloc o2).heap[w.heap.size]? = some o0 := (Below.heap_alloc _ _ _ (by simp; try omega)).trans ho1
  exact ho2
theorem laid3_1 (w : World) (o0 o1 o2 : Obj) : (((w.alloc o0).alloc o1).alloc o2).heap[w.heap.size + 1]? = some o1 := by
  have h1 : ((w.alloc o0).alloc o1).heap[w.heap.size + 1]? = some o1 := (by have := heap_alloc_new (w.alloc o0) o1; simpa [Nat.add_assoc] using this)
  have ho2 : (((w.alloc o0).alloc o1).alloc o2).heap[w.heap.size + 1]? = some o1 := (Below.heap_alloc _ _ _ (by simp; try omega)).trans h1
  exact ho2
theorem laid3_2 (w : World) (o0 o1 o2 : Obj) : (((w.alloc o0).alloc o1).alloc o2).heap[w.heap.size + 2]? = some o2 := by
  have h2 : (((w.alloc o0).alloc o1).alloc o2).heap[w.heap.size + 2]? = some o2 := (by have := heap_alloc_new ((w.alloc o0).alloc o1) o2; simpa [Nat.add_assoc] using this)
  exact h2
theorem laid3_b (w : World) (o0 o1 o2 : Obj) : Below w.heap.size w (((w.alloc o0).alloc o1).alloc o2) := ((((Below.refl w.heap.size w).alloc (Nat.le_refl _) o0).alloc (by simp; try omega) o1).alloc (by simp; try omega) o2)
theorem laid4_0 (w : World) (o0 o1 o2 o3 : Obj) : ((((w.alloc o0).alloc o1).alloc o2).alloc o3).heap[w.heap.size]? = some o0 := by
  have h0 : (w.alloc o0).heap[w.heap.size]? = some o0 := (heap_alloc_new w o0)
  have ho1 : ((w.alloc o0).alloc o1).heap[w.heap.size]? = some o0 := (Below.heap_alloc _ _ _ (by simp; try omega)).trans h0
  have ho2 : (((w.alloc o0).alloc o1).alloc o2).heap[w.heap.size]? = some o0 := (Below.heap_alloc _ _ _ (by simp; try omega)).trans ho1
  have ho3 : ((((w.alloc o0).alloc o1).alloc o2).alloc o3).heap[w.heap.size]? = some o0 := (Below.heap_alloc _ _ _ (by simp; try omega)).trans ho2
  exact ho3
theorem laid4_1 (w : World) (o0 o1 o2 o3 : Obj) : ((((w.alloc o0).alloc o1).alloc o2).alloc o3).heap[w.heap.size + 1]? = some o1 := by
  have h1 : ((w.alloc o0).alloc o1).heap[w.heap.size + 1]? = some o1 := (by have := heap_alloc_new (w.alloc o0) o1; simpa [Nat.add_assoc] using this)
  have ho2 : (((w.alloc o0).alloc o1).alloc o2).heap[w.heap.size + 1]? = some o1 := (Below.heap_alloc _ _ _ (by simp; try omega)).trans h1
  have ho3 : ((((w.alloc o0).alloc o1).alloc o2).alloc o3).heap[w.heap.size + 1]? = some o1 := (Below.heap_alloc _ _ _ (by simp; try omega)).trans ho2
  exact ho3
theorem laid4_2 (w : World) (o0 o1 o2 o3 : Obj) : ((((w.alloc o0).alloc o1).alloc o2).alloc o3).heap[w.heap.size + 2]? = some o2 := by
  have h2 : (((w.alloc o0).alloc o1).alloc o2).heap[w.heap.size + 2]? = some o2 := (by have := heap_alloc_new ((w.alloc o0).alloc o1) o2; simpa [Nat.add_assoc] using this)
  have ho3 : ((((w.alloc o0).alloc o1).alloc o2).alloc o3).heap[w.heap.size + 2]? = some o2 := (Below.heap_alloc _ _ _ (by simp; try omega)).trans h2
  exact ho3
theorem laid4_3 (w : World) (o0 o1 o2 o3 : Obj) : ((((w.alloc o0).alloc o1).alloc o2).alloc o3).heap[w.heap.size + 3]? = some o3 := by
  have h3 : ((((w.alloc o0).alloc o1).alloc o2).alloc o3).heap[w.heap.size + 3]? = some o3 := (by have := heap_alloc_new (((w.alloc o0).alloc o1).alloc o2) o3; simpa [Nat.add_assoc] using this)
  exact h3
theorem laid4_b (w : World) (o0 o1 o2 o3 : Obj) : Below w.heap.size w ((((w.alloc o0).alloc o1).alloc o2).alloc o3) := (((((Below.refl w.heap.size w).alloc (Nat.le_refl _) o0).alloc (by simp; try omega) o1).alloc (by simp; try omega) o2).alloc (by simp; try omega) o3)
theorem laid5_0 (w : World) (o0 o1 o2 o3 o4 : Obj) : (((((w.alloc o0).alloc o1).alloc o2).alloc o3).alloc o4).heap[w.heap.size]? = some o0 := by
  have h0 : (w.alloc o0).heap[w.heap.size]? = some o0 := (heap_alloc_new w o0)
  have ho1 : ((w.alloc o0).alloc o1).heap[w.heap.size]? = some o0 := (Below.heap_alloc _ _ _ (by simp; try omega)).trans h0
  have ho2 : (((w.alloc o0).alloc o1).alloc o2).heap[w.heap.size]? = some o0 := (Below.heap_alloc _ _ _ (by simp; try omega)).trans ho1
  have ho3 : ((((w.alloc o0).alloc o1).alloc o2).alloc o3).heap[w.heap.size]? = some o0 := (Below.heap_alloc _ _ _ (by simp; try omega)).trans ho2
  have ho4 : (((((w.alloc o0).alloc o1).alloc o2).alloc o3).alloc o4).heap[w.heap.size]? = some o0 := (Below.heap_alloc _ _ _ (by simp; try omega)).trans ho3
  exact ho4
theorem laid5_1 (w : World) (o0 o1 o2 o3 o4 : Obj) : (((((w.alloc o0).alloc o1).alloc o2).alloc o3).alloc o4).heap[w.heap.size + 1]? = some o1 := by
  have h1 : ((w.alloc o0).alloc o1).heap[w.heap.size + 1]? = some o1 := (by have := heap_alloc_new (w.alloc o0) o1; simpa [Nat.add_assoc] using this)
  have ho2 : (((w.alloc o0).alloc o1).alloc o2).heap[w.heap.size + 1]? = some o1 := (Below.heap_alloc _ _ _ (by simp; try omega)).trans h1
  have ho3 : ((((w.alloc o0).alloc o1).alloc o2).alloc o3).heap[w.heap.size + 1]? = some o1 := (Below.heap_alloc _ _ _ (by simp; try omega)).trans ho2
  have ho4 : (((((w.alloc o0).alloc o1).alloc o2).alloc o3).alloc o4).heap[w.heap.size + 1]? = some o1 := (Below.heap_alloc _ _ _ (by simp; try omega)).trans ho3
  exact ho4
theorem laid5_2 (w : World) (o0 o1 o2 o3 o4 : Obj) : (((((w.alloc o0).alloc o1).alloc o2).alloc o3).alloc o4).heap[w.heap.size + 2]? = some o2 := by
  have h2 : (((w.alloc o0).alloc o1).alloc o2).heap[w.heap.size + 2]? = some o2 := (by have := heap_alloc_new ((w.alloc o0).alloc o1) o2; simpa [Nat.add_assoc] using this)
  have ho3 : ((((w.alloc o0).alloc o1).alloc o2).alloc o3).heap[w.heap.size + 2]? = some o2 := (Below.heap_alloc _ _ _ (by simp; try omega)).trans h2
  have ho4 : (((((w.alloc o0).alloc o1).alloc o2).alloc o3).alloc o4).heap[w.heap.size + 2]? = some o2 := (Below.heap_alloc _ _ _ (by simp; try omega)).trans ho3
  exact ho4
theorem laid5_3 (w : World) (o0 o1 o2 o3 o4 : Obj) : (((((w.alloc o0).alloc o1).alloc o2).alloc o3).alloc o4).heap[w.heap.size + 3]? = some o3 := by
  have h3 : ((((w.alloc o0).alloc o1).alloc o2).alloc o3).heap[w.heap.size + 3]? = some o3 := (by have := heap_alloc_new (((w.alloc o0).alloc o1).alloc o2) o3; simpa [Nat.add_assoc] using this)
  have ho4 : (((((w.alloc o0).alloc o1).alloc o2).alloc o3).alloc o4).heap[w.heap.size + 3]? = some o3 := (Below.heap_alloc _ _ _ (by simp; try omega)).trans h3
  exact ho4
theorem laid5_4 (w : World) (o0 o1 o2 o3 o4 : Obj) : (((((w.alloc o0).alloc o1).alloc o2).alloc o3).alloc o4).heap[w.heap.size + 4]? = some o4 := by
  have h4 : (((((w.alloc o0).alloc o1).alloc o2).alloc o3).alloc o4).heap[w.heap.size + 4]? = some o4 := (by have := heap_alloc_new ((((w.alloc o0).alloc o1).alloc o2).alloc o3) o4; simpa [Nat.add_assoc] using this)
  exact h4
theorem laid5_b (w : World) (o0 o1 o2 o3 o4 : Obj) : Below w.heap.size w (((((w.alloc o0).alloc o1).alloc o2).alloc o3).alloc o4) := ((((((Below.refl w.heap.size w).alloc (Nat.le_refl _) o0).alloc (by simp; try omega) o1).alloc (by simp; try omega) o2).alloc (by simp; try omega) o3).alloc (by simp; try omega) o4)
theorem laid6_0 (w : World) (o0 o1 o2 o3 o4 o5 : Obj) : ((((((w.alloc o0).alloc o1).alloc o2).alloc o3).alloc o4).alloc o5).heap[w.heap.size]? = some o0 := by
  have h0 : (w.alloc o0).heap[w.heap.size]? = some o0 := (heap_alloc_new w o0)
  have ho1 : ((w.alloc o0).alloc o1).heap[w.heap.size]? = some o0 := (Below.heap_alloc _ _ _ (by simp; try omega)).trans h0
  have ho2 : (((w.alloc o0).alloc o1).alloc o2).heap[w.heap.size]? = some o0 := (Below.heap_alloc _ _ _ (by simp; try omega)).trans ho1
  have ho3 : ((((w.alloc o0).alloc o1).alloc o2).alloc o3).heap[w.heap.size]? = some o0 := (Below.heap_alloc _ _ _ (by simp; try omega)).trans ho2
  have ho4 : (((((w.alloc o0).alloc o1).alloc o2).alloc o3).alloc o4).heap[w.heap.size]? = some o0 := (Below.heap_alloc _ _ _ (by simp; try omega)).trans ho3
  have ho5 : ((((((w.alloc o0).alloc o1).alloc o2).alloc o3).alloc o4).alloc o5).heap[w.heap.size]? = some o0 := (Below.heap_alloc _ _ _ (by simp; try omega)).trans ho4
  exact ho5
theorem laid6_1 (w : World) (o0 o1 o2 o3 o4 o5 : Obj) : ((((((w.alloc o0).alloc o1).alloc o2).alloc o3).alloc o4).alloc o5).heap[w.heap.size + 1]? = some o1 := by
  have h1 : ((w.alloc o0).alloc o1).heap[w.heap.size + 1]? = some o1 := (by have := heap_alloc_new (w.alloc o0) o1; simpa [Nat.add_assoc] using this)
  have ho2 : (((w.alloc o0).alloc o1).alloc o2).heap[w.heap.size + 1]? = some o1 := (Below.heap_alloc _ _ _ (by simp; try omega)).trans h1
  have ho3 : ((((w.alloc o0).alloc o1).alloc o2).alloc o3).heap[w.heap.size + 1]? = some o1 := (Below.heap_alloc _ _ _ (by simp; try omega)).trans ho2
  have ho4 : (((((w.alloc o0).alloc o1).alloc o2).alloc o3).alloc o4).heap[w.heap.size + 1]? = some o1 := (Below.heap_alloc _ _ _ (by simp; try omega)).trans ho3
  have ho5 : ((((((w.alloc o0).alloc o1).alloc o2).alloc o3).alloc o4).alloc o5).heap[w.heap.size + 1]? = some o1 := (Below.heap_alloc _ _ _ (by simp; try omega)).trans ho4
  exact ho5
theorem laid6_2 (w : World) (o0 o1 o2 o3 o4 o5 : Obj) : ((((((w.alloc o0).alloc o1).alloc o2).alloc o3).alloc o4).alloc o5).heap[w.heap.size + 2]? = some o2 := by
  have h2 : (((w.alloc o0).alloc o1).alloc o2).heap[w.heap.size + 2]? = some o2 := (by have := heap_alloc_new ((w.alloc o0).alloc o1) o2; simpa [Nat.add_assoc] using this)
  have ho3 : ((((w.alloc o0).alloc o1).alloc o2).alloc o3).heap[w.heap.size + 2]? = some o2 := (Below.heap_alloc _ _ _ (by simp; try omega)).trans h2
  have ho4 : (((((w.alloc o0).alloc o1).alloc o2).alloc o3).alloc o4).heap[w.heap.size + 2]? = some o2 := (Below.heap_alloc _ _ _ (by simp; try omega)).trans ho3
  have ho5 : ((((((w.alloc o0).alloc o1).alloc o2).alloc o3).alloc o4).alloc o5).heap[w.heap.size + 2]? = some o2 := (Below.heap_alloc _ _ _ (by simp; try omega)).trans ho4
  exact ho5
theorem laid6_3 (w : World) (o0 o1 o2 o3 o4 o5 : Obj) : ((((((w.alloc o0).alloc o1).alloc o2).alloc o3).alloc o4).alloc o5).heap[w.heap.size + 3]? = some o3 := by
  have h3 : ((((w.alloc o0).alloc o1).alloc o2).alloc o3).heap[w.heap.size + 3]? = some o3 := (by have := heap_alloc_new (((w.alloc o0).alloc o1).alloc o2) o3; simpa [Nat.add_assoc] using this)
  have ho4 : (((((w.alloc o0).alloc o1).alloc o2).alloc o3).alloc o4).heap[w.heap.size + 3]? = some o3 := (Below.heap_alloc _ _ _ (by simp; try omega)).trans h3
  have ho5 : ((((((w.alloc o0).alloc o1).alloc o2).alloc o3).alloc o4).alloc o5).heap[w.heap.size + 3]? = some o3 := (Below.heap_alloc _ _ _ (by simp; try omega)).trans ho4
  exact ho5
theorem laid6_4 (w : World) (o0 o1 o2 o3 o4 o5 : Obj) : ((((((w.alloc o0).alloc o1).alloc o2).alloc o3).alloc o4).alloc o5).heap[w.heap.size + 4]? = some o4 := by
  have h4 : (((((w.alloc o0).alloc o1).alloc o2).alloc o3).alloc o4).heap[w.heap.size + 4]? = some o4 := (by have := heap_alloc_new ((((w.alloc o0).alloc o1).alloc o2).alloc o3) o4; simpa [Nat.add_assoc] using this)
  have ho5 : ((((((w.alloc o0).alloc o1).alloc o2).alloc o3).alloc o4).alloc o5).heap[w.heap.size + 4]? = some o4 := (Below.heap_alloc _ _ _ (by simp; try omega)).trans h4
  exact ho5
theorem laid6_5 (w : World) (o0 o1 o2 o3 o4 o5 : Obj) : ((((((w.alloc o0).alloc o1).alloc o2).alloc o3).alloc o4).alloc o5).heap[w.heap.size + 5]? = some o5 := by
  have h5 : ((((((w.alloc o0).alloc o1).alloc o2).alloc o3).alloc o4).alloc o5).heap[w.heap.size + 5]? = some o5 := (by have := heap_alloc_new (((((w.alloc o0).alloc o1).alloc o2).alloc o3).alloc o4) o5; simpa [Nat.add_assoc] using this)
  exact h5
theorem laid6_b (w : World) (o0 o1 o2 o3 o4 o5 : Obj) : Below w.heap.size w ((((((w.alloc o0).alloc o1).alloc o2).alloc o3).alloc o4).alloc o5) := (((((((Below.refl w.heap.size w).alloc (Nat.le_refl _) o0).alloc (by simp; try omega) o1).alloc (by simp; try omega) o2).alloc (by simp; try omega) o3).alloc (by simp; try omega) o4).alloc (by simp; try omega) o5)
end Go.Proofs.YtogoibigabpkhaaGreat
/- The program's reader: Read, Rest, Err, fine, fail; the library's Clone of bytes. -/
namespace Go.Proofs.YtogoibigabpkhaaGreat
set_option linter.unusedVariables false
open Go.RowKit
open Go.Lib (hid)

theorem SlB.src {w : World} {v : Value} {l : List UInt8} (h : SlB w v l) :
    (v = .slice none 0 0 ∧ l = []) ∨ ∃ ad cap, v = .slice (Option.some ad) l.length cap ∧ (∀ (j : Nat) u, (octs l)[j]? = Option.some u → w.cell? (ad.add j) = Option.some u) ∧ (0 < l.length → ad.block < w.heap.size) := by
  obtain ⟨b, o, cap, a, rfl, hn, hcap, ha, hc, hl⟩ := h
  rcases a with _ | ad
  · have h0 : l.length = 0 := by have := hn rfl; omega
    exact .inl ⟨by rw [hn rfl, h0], List.length_eq_zero_iff.1 h0⟩
  · refine .inr ⟨ad, cap, rfl, fun j u hu => ?_, fun h0 => by obtain rfl := Option.some.inj (ha h0); exact hl h0⟩
    simp only [octs, List.getElem?_map, Option.map_eq_some_iff] at hu
    obtain ⟨x, hx, rfl⟩ := hu
    have h0 : 0 < l.length := by have := (List.getElem?_eq_some_iff.1 hx).1; omega
    obtain rfl := Option.some.inj (ha h0)
    rw [show (⟨b, o, none⟩ : Addr).add j = ⟨b, o + j, none⟩ from by unfold Addr.add; split <;> simp_all]
    exact hc j x hx
theorem OwnB.slb {w : World} {B : Nat} {v : Value} {l : List UInt8} (h : OwnB w B v l) : SlB w v l := by
  have hl := h.lt
  rcases h.2 with ⟨rfl, h0⟩ | ⟨g, cap, cur, rfl, hb, hg, hn, hm, hs, ht⟩
  · obtain rfl := List.length_eq_zero_iff.1 h0
    exact SlB.nil w
  · refine ⟨g, 0, cap, _, rfl, fun h => by simp at h, hn, fun _ => rfl, fun j x hx => ?_, fun _ => (hl g rfl).2⟩
    have hj := (List.getElem?_eq_some_iff.1 hx).1
    rw [Nat.zero_add, h.cellAt j (by omega)]
    simp [octs, hx]
theorem OwnB.made (w : World) : OwnB (w.alloc (.cells #[] 5)) w.heap.size (.slice (Option.some ⟨w.heap.size, 0, none⟩) 0 0) [] :=
  World.ownsRow_made w #[] 0 (Nat.le_refl _) (by unfold maxLen; omega) rfl

abbrev ptr (p : Nat) : Value := .pointer (some ⟨p, 0, none⟩)

end Go.Proofs.YtogoibigabpkhaaGreat
