import Derived.Test.YtmggggijamligaaG00
import Derived.Deep.MidRow
import Derived.Laws.ResultCell
import Derived.Deep.Light
import Derived.Deep.CutRange
import Derived.Deep.Heap
import Derived.Deep.Upon
import Derived.BigRegion
import Derived.WalkMore
import Derived.Lib.SliceRun
import Derived.ScopeJumps
namespace Go.Proofs.Ytmggggijamligaa
set_option linter.unusedVariables false
open Go.RowKit
open Go.Lib (hid)
def SlB (w : World) (v : Value) (l : List UInt8) : Prop :=
  ∃ (b o cap : Nat) (a : Option Addr), v = .slice a l.length cap ∧ (a = none → cap = 0) ∧ l.length ≤ cap ∧ (0 < l.length → a = some ⟨b, o, none⟩) ∧ (∀ (j : Nat) x, l[j]? = some x → w.cell? ⟨b, o + j, none⟩ = some (.int .u8 x.toNat)) ∧ (0 < l.length → b < w.heap.size)
theorem SlB.nil (w : World) : SlB w (.slice none 0 0) [] := ⟨0, 0, 0, none, rfl, fun _ => rfl, Nat.le_refl _, fun h => absurd h (by simp), fun j x hx => by simp at hx, fun h => absurd h (by simp)⟩
def Rd (T : TypeId) (F : Nat → Prop) (w : World) (p : Nat) (s : St) : Prop :=
  ∃ v, w.heap[p]? = some (.cells #[v, .int .i64 s.2] T (0, 0)) ∧ SlB w v s.1 ∧ (∀ k, v.ownBlock = some k → F k) ∧ ¬ F p
theorem SlB.same {w w' : World} {v : Value} {l : List UInt8} (h : SlB w v l) (hs : w.heap.size ≤ w'.heap.size) (hb : ∀ k, v.ownBlock = some k → k < w.heap.size → w'.heap[k]? = w.heap[k]?) : SlB w' v l := by
  obtain ⟨b, o, cap, a, rfl, hn, hc, ha, hcl, hl⟩ := h
  refine ⟨b, o, cap, a, rfl, hn, hc, ha, fun j x hx => ?_, fun h0 => by have := hl h0; omega⟩
  have h0 : 0 < l.length := by have := (List.getElem?_eq_some_iff.1 hx).1; omega
  obtain rfl := ha h0
  have := hb b rfl (hl h0)
  rw [← hcl j x hx]
  simp only [World.cell?, this]
theorem SlB.on {w w' : World} {v : Value} {l : List UInt8} (h : SlB w v l) (hb : Below w.heap.size w w') : SlB w' v l := h.same hb.size fun k _ hk => hb.block k hk
theorem Rd.lt {T : TypeId} {F : Nat → Prop} {w : World} {p : Nat} {s : St} (h : Rd T F w p s) : p < w.heap.size := by
  obtain ⟨v, hp, _⟩ := h
  exact (Array.getElem?_eq_some_iff.1 hp).1
theorem Rd.out {T : TypeId} {F : Nat → Prop} {w : World} {p : Nat} {s : St} (h : Rd T F w p s) : ¬ F p := by
  obtain ⟨v, hp, _, _, hf⟩ := h
  exact hf
theorem Rd.on {T : TypeId} {F : Nat → Prop} {w w' : World} {p : Nat} {s : St} (h : Rd T F w p s) (hb : Below w.heap.size w w') : Rd T F w' p s := by
  have hl := h.lt
  obtain ⟨v, hp, hs, hF, hf⟩ := h
  exact ⟨v, by rw [hb.block p hl]; exact hp, hs.on hb, hF, hf⟩
theorem Rd.cells {T : TypeId} {F : Nat → Prop} {w : World} {p : Nat} {s : St} (h : Rd T F w p s) : ∃ v, w.heap[p]? = some (.cells #[v, .int .i64 s.2] T (0, 0)) ∧ p < w.heap.size ∧ w.cell? ⟨p, 0, none⟩ = some v ∧ w.cell? ⟨p, 1, none⟩ = some (.int .i64 s.2) ∧ w.frozen? ⟨p, 0, none⟩ = false ∧ w.frozen? ⟨p, 1, none⟩ = false ∧ SlB w v s.1 ∧ (∀ k, v.ownBlock = some k → F k) := by
  obtain ⟨v, hp, hs, hF, hf⟩ := h
  exact ⟨v, hp, (Array.getElem?_eq_some_iff.1 hp).1, by simp [World.cell?, hp], by simp [World.cell?, hp], by simp [World.frozen?, hp], by simp [World.frozen?, hp], hs, hF⟩
theorem grownSet (w : World) (a : Addr) (u : Value) : w.grownBy (w.setCell a u) (some a.block) :=
  ⟨rfl, rfl, rfl, by simp [World.setCell], fun k _ hk => by
    have hne : a.block ≠ k := fun e => hk (by rw [e])
    simp [World.setCell, Array.getElem?_modify, hne]⟩
theorem grownRefl (w : World) (row : Option Nat) : w.grownBy w row := ⟨rfl, rfl, rfl, Nat.le_refl _, fun _ _ _ => rfl⟩
theorem grownTrans {a b c : World} {row : Option Nat} (h : a.grownBy b row) (k : b.grownBy c row) : a.grownBy c row :=
  ⟨k.os.trans h.os, k.tape.trans h.tape, k.output.trans h.output, Nat.le_trans h.size k.size, fun i hi hn => (k.block i (Nat.lt_of_lt_of_le hi h.size) hn).trans (h.block i hi hn)⟩
theorem grownBelow {a b : World} (h : Below a.heap.size a b) (row : Option Nat) : a.grownBy b row := ⟨h.os, h.tape, h.output, h.size, fun k hk _ => h.block k hk⟩
theorem grownDrew {a b : World} {row : Option Nat} (h : a.grownBy b row) : a.grownBy b.drew row := ⟨h.os, h.tape, h.output, h.size, h.block⟩
theorem SlB.drop {w : World} {b o cap : Nat} {l : List UInt8} (k : Nat) (hk : k ≤ l.length) (hlen : 0 < l.length) (hc : ∀ (j : Nat) x, l[j]? = some x → w.cell? ⟨b, o + j, none⟩ = some (.int .u8 x.toNat)) (hn : l.length ≤ cap) (hb : b < w.heap.size) :
    SlB w (.slice (some ⟨b, o + k, none⟩) (l.length - k) (cap - k)) (l.drop k) := by
  refine ⟨b, o + k, cap - k, _, by rw [List.length_drop], by simp, by rw [List.length_drop]; omega, fun _ => rfl, fun j x hx => ?_, fun _ => hb⟩
  rw [List.getElem?_drop] at hx
  rw [Nat.add_assoc]; exact hc _ x hx
theorem SlB.nothing {w : World} {a : Option Addr} {n c : Nat} {l : List UInt8} (hl : l.length = 0) (hn : n = 0) (hc : c = 0) : SlB w (.slice a n c) l := by
  subst hn hc
  obtain rfl := List.length_eq_zero_iff.1 hl
  exact ⟨0, 0, 0, a, rfl, fun _ => rfl, Nat.le_refl _, fun h => absurd h (by simp), fun j x hx => by simp at hx, fun h => absurd h (by simp)⟩
theorem SlB.of {w : World} {v v' : Value} {l : List UInt8} (h : SlB w v l) (e : v' = v) : SlB w v' l := e ▸ h
end Go.Proofs.Ytmggggijamligaa
namespace Go.Proofs.Ytmggggijamligaa
set_option linter.unusedVariables false
open Go.RowKit
open Go.Lib (hid)
end Go.Proofs.Ytmggggijamligaa
namespace Go.Proofs.Ytmggggijamligaa
set_option linter.unusedVariables false
open Go.RowKit
open Go.Lib (hid)
theorem Rd.alloc {T : TypeId} {F : Nat → Prop} {w : World} {p : Nat} {s : St} (h : Rd T F w p s) (o : Obj) : Rd T F (w.alloc o) p s := h.on ((Below.refl _ w).alloc (Nat.le_refl _) o)
theorem Rd.drewN {T : TypeId} {F : Nat → Prop} {w : World} {p : Nat} {s : St} (h : Rd T F w p s) (n : Nat) : Rd T F (w.drewN n) p s := h.on (Below.drewN' (Below.refl _ w) n)
theorem setAt {w : World} {q j : Nat} {vs : Array Value} {x : Value} {t : TypeId} (h : w.heap[q]? = some (.cells vs t (0, 0))) : (w.setCell ⟨q, j, none⟩ x).heap[q]? = some (.cells (vs.setIfInBounds j x) t (0, 0)) := by
  show (w.heap.modify q _)[q]? = _
  obtain ⟨hlt, hk⟩ := Array.getElem?_eq_some_iff.1 h
  rw [Array.getElem?_eq_getElem (by rw [Array.size_modify]; exact hlt), Array.getElem_modify_self, hk]
  rfl
theorem cellAt' {w : World} {q : Nat} {vs : Array Value} {t : TypeId} (h : w.heap[q]? = some (.cells vs t (0, 0))) (j : Nat) : w.cell? ⟨q, j, none⟩ = vs[j]? := cell_of_row w q j vs t (0, 0) h
theorem frozenAt {w : World} {q : Nat} {vs : Array Value} {t : TypeId} (h : w.heap[q]? = some (.cells vs t (0, 0))) (j : Nat) : w.frozen? ⟨q, j, none⟩ = false := by simp [World.frozen?, h]
theorem OwnN.cell {w : World} {B : Nat} {v : Value} {l : List Int} (h : OwnN w B v l) (h0 : 0 < l.length) : ∃ g cap, v = .slice (some ⟨g, 0, none⟩) l.length cap ∧ B ≤ g ∧ g < w.heap.size ∧ ∀ (j : Nat) x, l[j]? = some x → w.cell? ⟨g, j, none⟩ = some (.int .i64 x) := by
  have hl := h.lt
  rcases h.2 with ⟨rfl, e0⟩ | ⟨g, cap, cur, rfl, hb, hg, hn, hm, hs, ht⟩
  · omega
  · refine ⟨g, cap, rfl, hb, (hl g rfl).2, fun j x hx => ?_⟩
    have hj := (List.getElem?_eq_some_iff.1 hx).1
    rw [h.cellAt j (by omega)]
    simp [ints, hx]
end Go.Proofs.Ytmggggijamligaa
namespace Go.Proofs.Ytmggggijamligaa
set_option linter.unusedVariables false
open Go.RowKit
open Go.Lib (hid)
end Go.Proofs.Ytmggggijamligaa
namespace Go.Proofs.Ytmggggijamligaa
set_option linter.unusedVariables false
open Go.RowKit
open Go.Lib (hid)
structure Sv where
  a : Option Addr
  n : Nat
  c : Nat
structure Ev where
  c : C7
  pr : Int
  lo : Int
  hi : Int
  ft : Int
  fp : Sv
  ab : Int
  xt : Int
  xp : Sv
  fr : Bool
  dn : Bool
  vt : Int
  vp : Sv
abbrev Sv.v (s : Sv) : Value := .slice s.a s.n s.c
def Ev.list (e : Ev) : List Value := [.int .i64 e.c.i, .int .i64 e.c.k, .int .i64 e.c.s, .int .i64 e.c.t, .int .i64 e.c.d, .int .i64 e.c.p, .int .i64 e.c.q, .int .i64 e.pr, .int .i64 e.lo, .int .i64 e.hi, .int .i64 e.ft, e.fp.v, .int .i64 e.ab, .int .i64 e.xt, e.xp.v, .bool e.fr, .bool e.dn, .int .i64 e.vt, e.vp.v]
def Ev.arr (e : Ev) : Array Value := e.list.toArray
theorem Ev.len (e : Ev) : e.list.length = 19 := rfl
theorem Ev.size (e : Ev) : e.arr.size = 19 := rfl
theorem Ev.toList (e : Ev) : e.arr.toList = e.list := by unfold Ev.arr; simp
theorem Ev.one (e : Ev) : e.arr.all (·.oneCell') = true := all_oneCell_toArray fun v hv => by
  unfold Ev.list at hv; simp at hv
  rcases hv with h | h | h | h | h | h | h | h | h | h | h | h | h | h | h | h | h | h | h <;> subst h <;> rfl
end Go.Proofs.Ytmggggijamligaa
namespace Go.Proofs.Ytmggggijamligaa
set_option linter.unusedVariables false
open Go.RowKit
open Go.Lib (hid)
end Go.Proofs.Ytmggggijamligaa
namespace Go.Proofs.Ytmggggijamligaa
open Go.RowKit
open Go.Lib (hid)
theorem Own.more {w : World} {B : Nat} {v : Value} {cs : List C7} {c : C7} (h : w.ownsRow B 31 7 v (cs.length + 1) (flat cs ++ c.cells)) : Own w B v (cs ++ [c]) := by
  unfold Own; rw [flat_append, flat_single, List.length_append]; exact h
theorem Own.grows {w W0 w1 : World} {B : Nat} {v v' : Value} {cs : List C7} {c : C7} (hB : Below B w W0) (hsz : B ≤ W0.heap.size) (hlt : ∀ k, v.ownBlock = some k → B ≤ k)
    (hown' : w1.ownsRow B 31 7 v' (cs.length + 1) (flat cs ++ c.cells)) (hg : W0.grownBy w1 v.ownBlock) : Own w1 B v' (cs ++ [c]) ∧ Below B w w1 :=
  ⟨Own.more hown', hB.grown hg hsz hlt⟩
theorem new_cell {W : World} {c : C7} {g : Nat} (hg : g = W.heap.size) : ∀ (j : Nat) u, c.cells[j]? = some u → (W.alloc (.cells #[.int .i64 c.i, .int .i64 c.k, .int .i64 c.s, .int .i64 c.t, .int .i64 c.d, .int .i64 c.p, .int .i64 c.q] 31)).cell? ((⟨g, 0, none⟩ : Addr).add j) = some u := by
  intro j u hj
  subst hg
  rw [show (⟨W.heap.size, 0, none⟩ : Addr).add j = ⟨W.heap.size, j, none⟩ from by unfold Addr.add; split <;> simp_all, World.cell?_alloc_new, List.getElem?_toArray]
  exact hj
theorem cells_one (c : C7) : ∀ u ∈ c.cells, u.oneCell' = true := by
  intro u hu; simp at hu; rcases hu with rfl | rfl | rfl | rfl | rfl | rfl | rfl <;> rfl
end Go.Proofs.Ytmggggijamligaa
namespace Go.Proofs.Ytmggggijamligaa
set_option linter.unusedVariables false
open Go.RowKit
open Go.Lib (hid)
theorem Own.asSlice {w : World} {B : Nat} {v : Value} {cs : List C7} (h : Own w B v cs) : ∃ (g : Option Addr) (cap n : Nat), v = .slice g n cap ∧ n = cs.length := by
  rcases h.shape with ⟨e, e'⟩ | ⟨g, cap, e, _⟩
  · exact ⟨none, 0, 0, e, by rw [e']; rfl⟩
  · exact ⟨_, cap, _, e, rfl⟩
end Go.Proofs.Ytmggggijamligaa
namespace Go.Proofs.Ytmggggijamligaa
set_option linter.unusedVariables false
open Go.RowKit
open Go.Lib (hid)
end Go.Proofs.Ytmggggijamligaa
namespace Go.Proofs.Ytmggggijamligaa
set_option linter.unusedVariables false
open Go.RowKit
open Go.Lib (hid)
end Go.Proofs.Ytmggggijamligaa
namespace Go.Proofs.Ytmggggijamligaa
set_option linter.unusedVariables false
open Go.RowKit
open Go.Lib (hid)
end Go.Proofs.Ytmggggijamligaa
namespace Go.Proofs.Ytmggggijamligaa
set_option linter.unusedVariables false
open Go.RowKit
open Go.Lib (hid)
theorem rangeOf {W : World} {q : Nat} {e : Ev} {T : TypeId} (h : W.heap[q]? = some (.cells e.arr T (0, 0))) : W.rangeAt q 0 e.list := fun j v hv => by
  rw [Nat.zero_add, cellAt' h, ← Ev.toList] at *
  simpa using hv
end Go.Proofs.Ytmggggijamligaa
namespace Go.Proofs.Ytmggggijamligaa
set_option linter.unusedVariables false
open Go.RowKit
open Go.Lib (hid)
open Go.Deep (blk_setCell_other nblk_setCell)
abbrev Ob (w : World) (q : Nat) (T : TypeId) (e : Ev) : Prop := w.heap[q]? = some (.cells e.arr T (0, 0))
structure Upd (q : Nat) (w W : World) : Prop where
  size : W.heap.size = w.heap.size
  other : ∀ k, k < w.heap.size → k ≠ q → W.heap[k]? = w.heap[k]?
  below : ∀ B, B ≤ q → Below B w W
theorem Upd.ob {q k : Nat} {w W : World} (h : Upd q w W) {o : Obj} (hk : w.heap[k]? = some o) (hne : k ≠ q) : W.heap[k]? = some o := (h.other k (Array.getElem?_eq_some_iff.1 hk).1 hne).trans hk
theorem Ob.range {w : World} {q : Nat} {T : TypeId} {e : Ev} (h : Ob w q T e) : w.rangeAt q 0 e.list := rangeOf h
theorem Ob.cell {w : World} {q : Nat} {T : TypeId} {e : Ev} (h : Ob w q T e) {j : Nat} {v : Value} (hv : e.list[j]? = some v) : w.cell? ⟨q, j, none⟩ = some v := by
  have := h.range j v hv; rwa [Nat.zero_add] at this
theorem Ob.free {w : World} {q : Nat} {T : TypeId} {e : Ev} (h : Ob w q T e) (j : Nat) : w.frozen? ⟨q, j, none⟩ = false := frozenAt h j
theorem Ob.set {w : World} {q j : Nat} {T : TypeId} {e e' : Ev} {v : Value} (h : Ob w q T e) (he : e.arr.setIfInBounds j v = e'.arr) : Ob (w.setCell ⟨q, j, none⟩ v) q T e' := by
  have := setAt (j := j) (x := v) h
  rwa [he] at this
theorem obAlloc {k : Nat} {o x : Obj} {W : World} (h : W.heap[k]? = some o) : (W.alloc x).heap[k]? = some o := (Below.heap_alloc _ _ _ (Array.getElem?_eq_some_iff.1 h).1).trans h
theorem belowDrew {B : Nat} {w W : World} (h : Below B w W) : Below B w W.drew := ⟨h.1, h.2, h.3, h.4, h.5⟩
theorem laid5_0 (w : World) (o0 o1 o2 o3 o4 : Obj) : (((((w.alloc o0).alloc o1).alloc o2).alloc o3).alloc o4).heap[w.heap.size]? = some o0 := by
  have h0 : (w.alloc o0).heap[w.heap.size]? = some o0 := (heap_alloc_new w o0)
  have ho1 : ((w.alloc o0).alloc o1).heap[w.heap.size]? = some o0 := (Below.heap_alloc _ _ _ (by simp; try omega)).trans h0
  have ho2 : (((w.alloc o0).alloc o1).alloc o2).heap[w.heap.size]? = some o0 := (Below.heap_alloc _ _ _ (by simp; try omega)).trans ho1
  have ho3 : ((((w.alloc o0).alloc o1).alloc o2).alloc o3).heap[w.heap.size]? = some o0 := (Below.heap_alloc _ _ _ (by simp; try omega)).trans ho2
  have ho4 : (((((w.alloc o0).alloc o1).alloc o2).alloc o3).alloc o4).heap[w.heap.size]? = some o0 := (Below.heap_alloc _ _ _ (by simp; try omega)).trans ho3
  exact ho4
theorem laid5_1 (w : World) (o0 o1 o2 o3 o4 : Obj) : (((((w.alloc o0).alloc o1).alloc o2).alloc o3).alloc o4).heap[w.heap.size + 1]? = some o1 := by
  have h1 : ((w.alloc o0).alloc o1).heap[w.heap.size + 1]? = some o1 := (by have := heap_alloc_new (w.alloc o0) o1; simpa [Nat.add_assoc] using this)
  have ho2 : (((w.alloc o0).alloc o1).alloc o2).heap[w.heap.size + 1]? = some o1 := (Below.heap_alloc _ _ _ (by simp; try omega)).trans h1
  have ho3 : ((((w.alloc o0).alloc o1).alloc o2).alloc o3).heap[w.heap.size + 1]? = some o1 := (Below.heap_alloc _ _ _ (by simp; try omega)).trans ho2
  have ho4 : (((((w.alloc o0).alloc o1).alloc o2).alloc o3).alloc o4).heap[w.heap.size + 1]? = some o1 := (Below.heap_alloc _ _ _ (by simp; try omega)).trans ho3
  exact ho4
theorem laid5_2 (w : World) (o0 o1 o2 o3 o4 : Obj) : (((((w.alloc o0).alloc o1).alloc o2).alloc o3).alloc o4).heap[w.heap.size + 2]? = some o2 := by
  have h2 : (((w.alloc o0).alloc o1).alloc o2).heap[w.heap.size + 2]? = some o2 := (by have := heap_alloc_new ((w.alloc o0).alloc o1) o2; simpa [Nat.add_assoc] using this)
  have ho3 : ((((w.alloc o0).alloc o1).alloc o2).alloc o3).heap[w.heap.size + 2]? = some o2 := (Below.heap_alloc _ _ _ (by simp; try omega)).trans h2
  have ho4 : (((((w.alloc o0).alloc o1).alloc o2).alloc o3).alloc o4).heap[w.heap.size + 2]? = some o2 := (Below.heap_alloc _ _ _ (by simp; try omega)).trans ho3
  exact ho4
theorem laid5_3 (w : World) (o0 o1 o2 o3 o4 : Obj) : (((((w.alloc o0).alloc o1).alloc o2).alloc o3).alloc o4).heap[w.heap.size + 3]? = some o3 := by
  have h3 : ((((w.alloc o0).alloc o1).alloc o2).alloc o3).heap[w.heap.size + 3]? = some o3 := (by have := heap_alloc_new (((w.alloc o0).alloc o1).alloc o2) o3; simpa [Nat.add_assoc] using this)
  have ho4 : (((((w.alloc o0).alloc o1).alloc o2).alloc o3).alloc o4).heap[w.heap.size + 3]? = some o3 := (Below.heap_alloc _ _ _ (by simp; try omega)).trans h3
  exact ho4
theorem laid5_4 (w : World) (o0 o1 o2 o3 o4 : Obj) : (((((w.alloc o0).alloc o1).alloc o2).alloc o3).alloc o4).heap[w.heap.size + 4]? = some o4 := by
  have h4 : (((((w.alloc o0).alloc o1).alloc o2).alloc o3).alloc o4).heap[w.heap.size + 4]? = some o4 := (by have := heap_alloc_new ((((w.alloc o0).alloc o1).alloc o2).alloc o3) o4; simpa [Nat.add_assoc] using this)
  exact h4
theorem laid5_b (w : World) (o0 o1 o2 o3 o4 : Obj) : Below w.heap.size w (((((w.alloc o0).alloc o1).alloc o2).alloc o3).alloc o4) := ((((((Below.refl w.heap.size w).alloc (Nat.le_refl _) o0).alloc (by simp; try omega) o1).alloc (by simp; try omega) o2).alloc (by simp; try omega) o3).alloc (by simp; try omega) o4)
end Go.Proofs.Ytmggggijamligaa
namespace Go.Proofs.Ytmggggijamligaa
set_option linter.unusedVariables false
open Go.RowKit
open Go.Lib (hid)
theorem OwnB.made (w : World) : OwnB (w.alloc (.cells #[] 5)) w.heap.size (.slice (Option.some ⟨w.heap.size, 0, none⟩) 0 0) [] :=
  World.ownsRow_made w #[] 0 (Nat.le_refl _) (by unfold maxLen; omega) rfl
end Go.Proofs.Ytmggggijamligaa
namespace Go.Proofs.Ytmggggijamligaa
set_option linter.unusedVariables false
open Go.RowKit
open Go.Lib (hid)
section
variable {α : Type}
def flatG (cl : α → List Value) (xs : List α) : List Value := xs.flatMap cl
theorem flatG_cons (cl : α → List Value) (x : α) (xs : List α) : flatG cl (x :: xs) = cl x ++ flatG cl xs := by simp [flatG]
theorem flatG_append (cl : α → List Value) (a b : List α) : flatG cl (a ++ b) = flatG cl a ++ flatG cl b := by simp [flatG]
theorem flatG_one (cl : α → List Value) (x : α) : flatG cl [x] = cl x := by simp [flatG]
theorem flatG_len {cl : α → List Value} {K : Nat} (hk : ∀ x, (cl x).length = K) : ∀ xs : List α, (flatG cl xs).length = xs.length * K
  | [] => by simp [flatG]
  | x :: xs => by rw [flatG_cons, List.length_append, hk, flatG_len hk xs, List.length_cons, Nat.add_mul]; omega
theorem flatG_at {cl : α → List Value} {K : Nat} (hk : ∀ x, (cl x).length = K) : ∀ (xs : List α) (j : Nat) (x : α), xs[j]? = some x → ∀ (f : Nat) v, (cl x)[f]? = some v → (flatG cl xs)[j * K + f]? = some v
  | [], j, x, h, _, _, _ => by simp at h
  | d :: xs, 0, x, h, f, v, hv => by
    simp at h; subst h
    have hf := (List.getElem?_eq_some_iff.1 hv).1
    rw [flatG_cons, Nat.zero_mul, Nat.zero_add, List.getElem?_append_left hf]; exact hv
  | d :: xs, j + 1, x, h, f, v, hv => by
    have := flatG_at hk xs j x (by simpa using h) f v hv
    have h7 : (cl d).length = K := hk d
    rw [flatG_cons, List.getElem?_append_right (by rw [h7, Nat.add_mul]; omega), h7, show (j + 1) * K + f - K = j * K + f by rw [Nat.add_mul]; omega]
    exact this
def RowsG (cl : α → List Value) (K : Nat) (w : World) (b o : Nat) (xs : List α) : Prop := ∀ (j : Nat) x, xs[j]? = some x → w.rangeAt b (o + j * K) (cl x)
def SlG (cl : α → List Value) (K : Nat) (w : World) (v : Value) (xs : List α) : Prop :=
  ∃ (b o cap : Nat) (a : Option Addr), v = .slice a xs.length cap ∧ (0 < xs.length → a = some ⟨b, o, none⟩) ∧ RowsG cl K w b o xs ∧ (0 < xs.length → b < w.heap.size)
theorem RowsG.on {cl : α → List Value} {K : Nat} {w w' : World} {b o B : Nat} {xs : List α} (h : RowsG cl K w b o xs) (hb : Below B w w') (hB : 0 < xs.length → b < B) : RowsG cl K w' b o xs := fun j x hx i v hv => by
  have h0 : 0 < xs.length := by have := (List.getElem?_eq_some_iff.1 hx).1; omega
  exact (hb.cell (p := ⟨b, _, none⟩) (hB h0)).trans (h j x hx i v hv)
theorem SlG.on {cl : α → List Value} {K : Nat} {w w' : World} {v : Value} {xs : List α} (h : SlG cl K w v xs) (hb : Below w.heap.size w w') : SlG cl K w' v xs := by
  obtain ⟨b, o, cap, a, rfl, ha, hr, hl⟩ := h
  exact ⟨b, o, cap, a, rfl, ha, hr.on hb hl, fun h0 => Nat.lt_of_lt_of_le (hl h0) hb.size⟩
theorem SlG.nil (cl : α → List Value) (K : Nat) (w : World) : SlG cl K w (.slice none 0 0) [] := ⟨0, 0, 0, none, rfl, fun h => absurd h (by simp), fun j x h => by simp at h, fun h => absurd h (by simp)⟩
abbrev OwnG (cl : α → List Value) (K : Nat) (T : TypeId) (w : World) (B : Nat) (v : Value) (xs : List α) : Prop := w.ownsRow B T K v xs.length (flatG cl xs)
theorem OwnG.nil (cl : α → List Value) (K : Nat) (T : TypeId) (w : World) (B : Nat) : OwnG cl K T w B (.slice none 0 0) [] := World.ownsRow_nil _ _ _ _
theorem addr_add (g j : Nat) : (⟨g, 0, none⟩ : Addr).add j = ⟨g, j, none⟩ := by unfold Addr.add; split <;> simp_all
theorem OwnG.slG {cl : α → List Value} {K : Nat} {T : TypeId} {w : World} {B : Nat} {v : Value} {xs : List α} (hk : ∀ x, (cl x).length = K) (h : OwnG cl K T w B v xs) : SlG cl K w v xs := by
  have hl := h.lt
  have hcl := fun g (hg : v.ownBlock = some g) => h.cells hg
  rcases h.2 with ⟨rfl, h0⟩ | ⟨g, cap, cur, rfl, hb, hg, hn, hm, hs, ht⟩
  · obtain rfl : xs = [] := List.length_eq_zero_iff.1 h0
    exact SlG.nil _ _ _
  · refine ⟨g, 0, cap, _, rfl, fun _ => rfl, fun j x hx f v hv => ?_, fun _ => (hl g rfl).2⟩
    have := hcl g rfl _ _ (flatG_at hk xs j x hx f v hv)
    rw [addr_add] at this
    rw [show 0 + j * K + f = j * K + f by omega]; exact this
theorem OwnG.asSlice {cl : α → List Value} {K : Nat} {T : TypeId} {w : World} {B : Nat} {v : Value} {xs : List α} (h : OwnG cl K T w B v xs) : ∃ (g : Option Addr) (cap n : Nat), v = .slice g n cap ∧ n = xs.length := by
  rcases h.2 with ⟨rfl, h0⟩ | ⟨g, cap, cur, rfl, _⟩
  · exact ⟨none, 0, 0, rfl, h0.symm⟩
  · exact ⟨_, cap, _, rfl, rfl⟩
theorem OwnG.on {cl : α → List Value} {K : Nat} {T : TypeId} {w w' : World} {B : Nat} {v : Value} {xs : List α} (h : OwnG cl K T w B v xs) (hb : Below w.heap.size w w') : OwnG cl K T w' B v xs := own_below h hb fun k hk => (h.lt k hk).2
theorem OwnG.mono {cl : α → List Value} {K : Nat} {T : TypeId} {w : World} {B B' : Nat} {v : Value} {xs : List α} (h : OwnG cl K T w B v xs) (hB : B' ≤ B) : OwnG cl K T w B' v xs := own_monoB h hB
theorem OwnG.grows {cl : α → List Value} {K : Nat} {T : TypeId} {w W0 w1 : World} {B n : Nat} {v v' : Value} {xs : List α} {x : α} (hB : Below B w W0) (hsz : B ≤ W0.heap.size) (hlt : ∀ k, v.ownBlock = some k → B ≤ k)
    (hown' : w1.ownsRow B T K v' n (flatG cl xs ++ cl x)) (hn : n = xs.length + 1) (hg : W0.grownBy w1 v.ownBlock) : OwnG cl K T w1 B v' (xs ++ [x]) ∧ Below B w w1 :=
  ⟨by unfold OwnG; rw [flatG_append, flatG_one, List.length_append, List.length_singleton, ← hn]; exact hown', hB.grown hg hsz hlt⟩
end
abbrev kE : ∀ e : Ev, e.list.length = 19 := Ev.len
theorem oneE (e : Ev) : ∀ u ∈ e.list, u.oneCell' = true := fun u hu => by
  have := Array.all_eq_true_iff_forall_mem.1 (Ev.one e) u
  exact this (by rw [← Array.mem_toList_iff, Ev.toList]; exact hu)
abbrev SlE (w : World) (v : Value) (es : List Ev) : Prop := SlG Ev.list 19 w v es
abbrev OwnE (w : World) (B : Nat) (v : Value) (es : List Ev) : Prop := OwnG Ev.list 19 55 w B v es
theorem Try.infoEz : (Try.prog.info? 55).map (fun i => (i.zero, i.size, i.bytes)) = some (some (.agg #[.int .i64 0, .int .i64 0, .int .i64 0, .int .i64 0, .int .i64 0, .int .i64 0, .int .i64 0, .int .i64 0, .int .i64 0, .int .i64 0, .int .i64 0, .slice none 0 0, .int .i64 0, .int .i64 0, .slice none 0 0, .bool false, .bool false, .int .i64 0, .slice none 0 0]), 19, 192) := by kernel_rfl
structure En where
  e : Ev
  f : List C7
  a : List C7
  v : List C7
def En.at (w : World) (x : En) : Prop := Sl w x.e.fp.v x.f ∧ Sl w x.e.xp.v x.a ∧ Sl w x.e.vp.v x.v
theorem En.at.on {w w' : World} {x : En} (h : x.at w) (hb : Below w.heap.size w w') : x.at w' := ⟨h.1.on hb, h.2.1.on hb, h.2.2.on hb⟩
abbrev En.id (x : En) : Int := x.e.c.i
def En.short (n : Nat) (x : En) : Prop := x.f.length ≤ n ∧ x.a.length ≤ n ∧ x.v.length ≤ n
def AllAt (w : World) (xs : List En) : Prop := ∀ x ∈ xs, x.at w
theorem AllAt.on {w w' : World} {xs : List En} (h : AllAt w xs) (hb : Below w.heap.size w w') : AllAt w' xs := fun x hx => (h x hx).on hb
end Go.Proofs.Ytmggggijamligaa
