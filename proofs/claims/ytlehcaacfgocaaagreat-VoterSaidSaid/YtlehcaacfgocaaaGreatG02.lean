import Derived.Test.YtlehcaacfgocaaaGreatG01
import Derived.Deep.MidRow
import Derived.Laws.ResultCell
import Derived.Deep.Light
import Derived.Deep.CutRange
import Derived.Deep.Heap
import Derived.Deep.Upon
import Derived.BigRegion
namespace Go.Proofs.YtlehcaacfgocaaaGreat
set_option linter.unusedVariables false
open Go.RowKit
open Go.Lib (hid)
def ints (l : List Int) : List Value := l.map (Value.int .i64)
theorem ints_append (a b : List Int) : ints (a ++ b) = ints a ++ ints b := by simp [ints]
abbrev OwnN (w : World) (B : Nat) (v : Value) (l : List Int) : Prop := w.ownsRow B 3 1 v l.length (ints l)
theorem OwnN.sl {w : World} {B : Nat} {v : Value} {l : List Int} (h : OwnN w B v l) : SlN w v l := by
  have hl := h.lt
  rcases h.2 with ⟨rfl, h0⟩ | ⟨g, cap, cur, rfl, hb, hg, hn, hm, hs, ht⟩
  · obtain rfl := List.length_eq_zero_iff.1 h0
    exact ⟨0, 0, 0, none, rfl, fun h => absurd h (by simp), fun j x hx => by simp at hx, fun h => absurd h (by simp)⟩
  · refine ⟨g, 0, cap, _, rfl, fun _ => rfl, fun j x hx => ?_, fun _ => (hl g rfl).2⟩
    have hj := (List.getElem?_eq_some_iff.1 hx).1
    rw [Nat.zero_add, h.cellAt j (by omega)]
    simp [ints, hx]
theorem own_below {w w' : World} {B C : Nat} {e : TypeId} {size : Nat} {v : Value} {n : Nat} {xs : List Value} (h : w.ownsRow B e size v n xs) (hb : Below C w w') (hC : ∀ k, v.ownBlock = some k → k < C) : w'.ownsRow B e size v n xs := by
  refine ⟨h.1, ?_⟩
  rcases h.2 with h2 | ⟨g, cap, cur, rfl, h1, hg, r⟩
  · exact .inl h2
  · exact .inr ⟨g, cap, cur, rfl, h1, by rw [hb.block g (hC g rfl)]; exact hg, r⟩
theorem OwnN.asSlice {w : World} {B : Nat} {v : Value} {l : List Int} (h : OwnN w B v l) : ∃ (g : Option Addr) (cap n : Nat), v = .slice g n cap ∧ n = l.length := by
  rcases h.2 with ⟨rfl, h0⟩ | ⟨g, cap, cur, rfl, _⟩
  · exact ⟨none, 0, 0, rfl, h0.symm⟩
  · exact ⟨_, cap, _, rfl, rfl⟩
theorem OwnN.grows {w W0 w1 : World} {B n : Nat} {v v' : Value} {a b : List Int} (hB : Below B w W0) (hsz : B ≤ W0.heap.size) (hlt : ∀ k, v.ownBlock = some k → B ≤ k)
    (hown' : w1.ownsRow B 3 1 v' n (ints a ++ ints b)) (hn : n = a.length + b.length) (hg : W0.grownBy w1 v.ownBlock) : OwnN w1 B v' (a ++ b) ∧ Below B w w1 :=
  ⟨by unfold OwnN; rw [ints_append, List.length_append, ← hn]; exact hown', hB.grown hg hsz hlt⟩
end Go.Proofs.YtlehcaacfgocaaaGreat
namespace Go.Proofs.YtlehcaacfgocaaaGreat
set_option linter.unusedVariables false
open Go.RowKit
open Go.Lib (hid)
theorem OwnB.some {w : World} {B : Nat} {v : Value} {l : List UInt8} (h : OwnB w B v l) (hl : l ≠ []) : ∃ g cap, v = .slice (Option.some ⟨g, 0, none⟩) l.length cap := by
  rcases h.shape with ⟨_, e⟩ | ⟨g, cap, e, _⟩
  · exact absurd e hl
  · exact ⟨g, cap, e⟩
end Go.Proofs.YtlehcaacfgocaaaGreat
namespace Go.Proofs.YtlehcaacfgocaaaGreat
set_option linter.unusedVariables false
open Go.RowKit
open Go.Lib (hid)
def SlB (w : World) (v : Value) (l : List UInt8) : Prop :=
  ∃ (b o cap : Nat) (a : Option Addr), v = .slice a l.length cap ∧ (a = none → cap = 0) ∧ l.length ≤ cap ∧ (0 < l.length → a = some ⟨b, o, none⟩) ∧ (∀ (j : Nat) x, l[j]? = some x → w.cell? ⟨b, o + j, none⟩ = some (.int .u8 x.toNat)) ∧ (0 < l.length → b < w.heap.size)
theorem SlB.nil (w : World) : SlB w (.slice none 0 0) [] := ⟨0, 0, 0, none, rfl, fun _ => rfl, Nat.le_refl _, fun h => absurd h (by simp), fun j x hx => by simp at hx, fun h => absurd h (by simp)⟩
def Rd (T : TypeId) (F : Nat → Prop) (w : World) (p : Nat) (s : St) : Prop :=
  ∃ v, w.heap[p]? = some (.cells #[v, .int .i64 s.2] T (0, 0)) ∧ SlB w v s.1 ∧ (∀ k, v.ownBlock = some k → F k) ∧ ¬ F p
theorem SlB.same {w w' : World} {v : Value} {l : List UInt8} (h : SlB w v l) (hs : w.heap.size ≤ w'.heap.size) (hb : ∀ k, v.ownBlock = some k → k < w.heap.size → w'.heap[k]? = w.heap[k]?) : SlB w' v l := by
  obtain ⟨b, o, cap, a, rfl, hn, hc, ha, hcl, hl⟩ := h
  refine ⟨b, o, cap, a, rfl, hn, hc, ha, fun j x hx => ?_, fun h0 => by have := hl h0; omega⟩
  have h0 : 0 < l.length := by have := (List.getElem?_eq_some_iff.1 hx).1; omega
  obtain rfl := ha h0
  have := hb b rfl (hl h0)
  rw [← hcl j x hx]
  simp only [World.cell?, this]
theorem SlB.on {w w' : World} {v : Value} {l : List UInt8} (h : SlB w v l) (hb : Below w.heap.size w w') : SlB w' v l := h.same hb.size fun k _ hk => hb.block k hk
theorem Rd.lt {T : TypeId} {F : Nat → Prop} {w : World} {p : Nat} {s : St} (h : Rd T F w p s) : p < w.heap.size := by
  obtain ⟨v, hp, _⟩ := h
  exact (Array.getElem?_eq_some_iff.1 hp).1
theorem Rd.out {T : TypeId} {F : Nat → Prop} {w : World} {p : Nat} {s : St} (h : Rd T F w p s) : ¬ F p := by
  obtain ⟨v, hp, _, _, hf⟩ := h
  exact hf
theorem Rd.kept {T : TypeId} {F : Nat → Prop} {w w' : World} {p q : Nat} {s : St} (h : Rd T F w p s) (hg : w.grownBy w' (some q)) (hpq : p ≠ q) (hq : ¬ F q) : Rd T F w' p s := by
  have hl := h.lt
  obtain ⟨v, hp, hs, hF, hf⟩ := h
  refine ⟨v, ?_, hs.same hg.size fun k hk hlt => hg.block k hlt fun e => hq (by cases e; exact hF _ hk), hF, hf⟩
  rw [hg.block p hl (fun e => hpq (by cases e; rfl))]; exact hp
theorem Rd.on {T : TypeId} {F : Nat → Prop} {w w' : World} {p : Nat} {s : St} (h : Rd T F w p s) (hb : Below w.heap.size w w') : Rd T F w' p s := by
  have hl := h.lt
  obtain ⟨v, hp, hs, hF, hf⟩ := h
  exact ⟨v, by rw [hb.block p hl]; exact hp, hs.on hb, hF, hf⟩
theorem Rd.cells {T : TypeId} {F : Nat → Prop} {w : World} {p : Nat} {s : St} (h : Rd T F w p s) : ∃ v, w.heap[p]? = some (.cells #[v, .int .i64 s.2] T (0, 0)) ∧ p < w.heap.size ∧ w.cell? ⟨p, 0, none⟩ = some v ∧ w.cell? ⟨p, 1, none⟩ = some (.int .i64 s.2) ∧ w.frozen? ⟨p, 0, none⟩ = false ∧ w.frozen? ⟨p, 1, none⟩ = false ∧ SlB w v s.1 ∧ (∀ k, v.ownBlock = some k → F k) := by
  obtain ⟨v, hp, hs, hF, hf⟩ := h
  exact ⟨v, hp, (Array.getElem?_eq_some_iff.1 hp).1, by simp [World.cell?, hp], by simp [World.cell?, hp], by simp [World.frozen?, hp], by simp [World.frozen?, hp], hs, hF⟩
theorem grownSet (w : World) (a : Addr) (u : Value) : w.grownBy (w.setCell a u) (some a.block) :=
  ⟨rfl, rfl, rfl, by simp [World.setCell], fun k _ hk => by
    have hne : a.block ≠ k := fun e => hk (by rw [e])
    simp [World.setCell, Array.getElem?_modify, hne]⟩
theorem grownRefl (w : World) (row : Option Nat) : w.grownBy w row := ⟨rfl, rfl, rfl, Nat.le_refl _, fun _ _ _ => rfl⟩
theorem grownBelow {a b : World} (h : Below a.heap.size a b) (row : Option Nat) : a.grownBy b row := ⟨h.os, h.tape, h.output, h.size, fun k hk _ => h.block k hk⟩
theorem SlB.drop {w : World} {b o cap : Nat} {l : List UInt8} (k : Nat) (hk : k ≤ l.length) (hlen : 0 < l.length) (hc : ∀ (j : Nat) x, l[j]? = some x → w.cell? ⟨b, o + j, none⟩ = some (.int .u8 x.toNat)) (hn : l.length ≤ cap) (hb : b < w.heap.size) :
    SlB w (.slice (some ⟨b, o + k, none⟩) (l.length - k) (cap - k)) (l.drop k) := by
  refine ⟨b, o + k, cap - k, _, by rw [List.length_drop], by simp, by rw [List.length_drop]; omega, fun _ => rfl, fun j x hx => ?_, fun _ => hb⟩
  rw [List.getElem?_drop] at hx
  rw [Nat.add_assoc]; exact hc _ x hx
theorem SlB.nothing {w : World} {a : Option Addr} {n c : Nat} {l : List UInt8} (hl : l.length = 0) (hn : n = 0) (hc : c = 0) : SlB w (.slice a n c) l := by
  subst hn hc
  obtain rfl := List.length_eq_zero_iff.1 hl
  exact ⟨0, 0, 0, a, rfl, fun _ => rfl, Nat.le_refl _, fun h => absurd h (by simp), fun j x hx => by simp at hx, fun h => absurd h (by simp)⟩
theorem SlB.of {w : World} {v v' : Value} {l : List UInt8} (h : SlB w v l) (e : v' = v) : SlB w v' l := e ▸ h
end Go.Proofs.YtlehcaacfgocaaaGreat
namespace Go.Proofs.YtlehcaacfgocaaaGreat
set_option linter.unusedVariables false
open Go.RowKit
open Go.Lib (hid)
end Go.Proofs.YtlehcaacfgocaaaGreat
namespace Go.Proofs.YtlehcaacfgocaaaGreat
set_option linter.unusedVariables false
open Go.RowKit
open Go.Lib (hid)
theorem Rd.alloc {T : TypeId} {F : Nat → Prop} {w : World} {p : Nat} {s : St} (h : Rd T F w p s) (o : Obj) : Rd T F (w.alloc o) p s := h.on ((Below.refl _ w).alloc (Nat.le_refl _) o)
theorem Rd.drewN {T : TypeId} {F : Nat → Prop} {w : World} {p : Nat} {s : St} (h : Rd T F w p s) (n : Nat) : Rd T F (w.drewN n) p s := h.on (Below.drewN' (Below.refl _ w) n)
theorem setAt {w : World} {q j : Nat} {vs : Array Value} {x : Value} {t : TypeId} (h : w.heap[q]? = some (.cells vs t (0, 0))) : (w.setCell ⟨q, j, none⟩ x).heap[q]? = some (.cells (vs.setIfInBounds j x) t (0, 0)) := by
  show (w.heap.modify q _)[q]? = _
  obtain ⟨hlt, hk⟩ := Array.getElem?_eq_some_iff.1 h
  rw [Array.getElem?_eq_getElem (by rw [Array.size_modify]; exact hlt), Array.getElem_modify_self, hk]
  rfl
theorem cellAt' {w : World} {q : Nat} {vs : Array Value} {t : TypeId} (h : w.heap[q]? = some (.cells vs t (0, 0))) (j : Nat) : w.cell? ⟨q, j, none⟩ = vs[j]? := cell_of_row w q j vs t (0, 0) h
theorem frozenAt {w : World} {q : Nat} {vs : Array Value} {t : TypeId} (h : w.heap[q]? = some (.cells vs t (0, 0))) (j : Nat) : w.frozen? ⟨q, j, none⟩ = false := by simp [World.frozen?, h]
theorem OwnN.cell {w : World} {B : Nat} {v : Value} {l : List Int} (h : OwnN w B v l) (h0 : 0 < l.length) : ∃ g cap, v = .slice (some ⟨g, 0, none⟩) l.length cap ∧ B ≤ g ∧ g < w.heap.size ∧ ∀ (j : Nat) x, l[j]? = some x → w.cell? ⟨g, j, none⟩ = some (.int .i64 x) := by
  have hl := h.lt
  rcases h.2 with ⟨rfl, e0⟩ | ⟨g, cap, cur, rfl, hb, hg, hn, hm, hs, ht⟩
  · omega
  · refine ⟨g, cap, rfl, hb, (hl g rfl).2, fun j x hx => ?_⟩
    have hj := (List.getElem?_eq_some_iff.1 hx).1
    rw [h.cellAt j (by omega)]
    simp [ints, hx]
end Go.Proofs.YtlehcaacfgocaaaGreat
namespace Go.Proofs.YtlehcaacfgocaaaGreat
set_option linter.unusedVariables false
open Go.RowKit
open Go.Lib (hid)
def validB (t : Int) : Bool := decide (16 ≤ t ∧ t < 1048576 ∧ t % 16 ≤ 8)
def fullB (t : Int) (l : List C7) : Bool := validB t && setB l
def noneB (t : Int) (l : List C7) : Bool := decide (t = 0) && decide (l.length = 0)
def mustB (t : Int) (l : List C7) (is : Bool) : Bool := (is && fullB t l) || (!is && noneB t l)
abbrev boxV (t : Int) (v : Value) : Obj := .cells #[.int .i64 t, v] 48
end Go.Proofs.YtlehcaacfgocaaaGreat
namespace Go.Proofs.YtlehcaacfgocaaaGreat
set_option linter.unusedVariables false
open Go.RowKit
open Go.Lib (hid)
structure Sv where
  a : Option Addr
  n : Nat
  c : Nat
structure Ev where
  c : C7
  pr : Int
  lo : Int
  hi : Int
  ft : Int
  fp : Sv
  ab : Int
  xt : Int
  xp : Sv
  fr : Bool
  dn : Bool
  vt : Int
  vp : Sv
abbrev Sv.v (s : Sv) : Value := .slice s.a s.n s.c
def Ev.list (e : Ev) : List Value := [.int .i64 e.c.i, .int .i64 e.c.k, .int .i64 e.c.s, .int .i64 e.c.t, .int .i64 e.c.d, .int .i64 e.c.p, .int .i64 e.c.q, .int .i64 e.pr, .int .i64 e.lo, .int .i64 e.hi, .int .i64 e.ft, e.fp.v, .int .i64 e.ab, .int .i64 e.xt, e.xp.v, .bool e.fr, .bool e.dn, .int .i64 e.vt, e.vp.v]
def Ev.arr (e : Ev) : Array Value := e.list.toArray
theorem Ev.len (e : Ev) : e.list.length = 19 := rfl
theorem Ev.size (e : Ev) : e.arr.size = 19 := rfl
theorem Ev.toList (e : Ev) : e.arr.toList = e.list := by unfold Ev.arr; simp
theorem Ev.one (e : Ev) : e.arr.all (·.oneCell') = true := all_oneCell_toArray fun v hv => by
  unfold Ev.list at hv; simp at hv
  rcases hv with h | h | h | h | h | h | h | h | h | h | h | h | h | h | h | h | h | h | h <;> subst h <;> rfl
theorem rangeNew (w : World) (e : Ev) (T : TypeId) : (w.alloc (.cells e.arr T)).rangeAt w.heap.size 0 e.list := fun j v hv => by
  rw [Nat.zero_add, World.cell?_alloc_new, ← Ev.toList] at *
  simpa using hv
theorem thereNew (w : World) (C : Array Value) (T : TypeId) (n : Nat) (h : n ≤ C.size) : (w.alloc (.cells C T)).there w.heap.size 0 n := fun j hj => by
  rw [Nat.zero_add, World.cell?_alloc_new]
  refine ⟨?_, frozenAt (vs := C) (t := T) (heap_alloc_new w (.cells C T)) j⟩
  rw [Array.getElem?_eq_getElem (by omega)]; rfl
theorem below_cells {B : Nat} {a : World} {b : Nat} (hb : B ≤ b) : ∀ (vs : List Value) (o : Nat) (w : World), Below B a w → Below B a (w.setCells b o vs)
  | [], o, w, h => h
  | v :: vs, o, w, h => by
    show Below B a ((w.setCell ⟨b, o, none⟩ v).setCells b (o + 1) vs)
    exact below_cells hb vs (o + 1) _ (h.setCell hb v)
theorem ret_cell_tmp {P : Program} {fn : Func} {a : Act} {w : World} {p u : Tmp} {ty : TypeId} {b o : Nat} {cs : List Value} {d : TypeDesc} {v : Value} (h : fn.results = #[.cell p ty, .tmp u]) (hp : a.tmps.getD p undef = .pointer (some ⟨b, o, none⟩)) (hu : a.tmps.getD u undef = v)
    (hc : w.rangeAt b o cs) (ht : P.underlying ty = some d) (hd : d.isRow = true) (hi : (P.info? ty).map (·.size) = some cs.length) : (results fn a.tmps).run P w = .ok (.tuple #[.agg cs.toArray, v]) w := by
  rw [results_cell_tmp h, hp, hu]
  simp [asAddr, run_loadVar_mid w b o ty cs d hc ht hd hi, Result.andThen]
def promE (e : Ev) (b : Int) : Ev × Int := if withinB b 1048576 = false then (e, 1) else if b < e.pr then (e, 11) else ({ e with pr := b }, 0)
theorem setsE {w : World} {b : Nat} {e : Ev} (h : w.there b 0 19) : (w.setCells b 0 e.arr.toList).rangeAt b 0 e.list := by
  rw [Ev.toList]; exact World.rangeAt_setCells_same w b 0 e.list h
end Go.Proofs.YtlehcaacfgocaaaGreat
namespace Go.Proofs.YtlehcaacfgocaaaGreat
set_option linter.unusedVariables false
open Go.RowKit
open Go.Lib (hid)
def loE (e : Ev) (t : Int) : Int := if e.lo = 0 ∨ t < e.lo then t else e.lo
def hiE (e : Ev) (t : Int) : Int := if e.hi < t then t else e.hi
def resE (e : Ev) (t : Int) : Ev × Int := if validB t = false then (e, 1) else ({ e with lo := loE e t, hi := hiE e t }, 0)
def aheadE (e : Ev) (t : Int) : Bool := if e.dn = true then decide (e.vt < t) else (!decide (e.lo = 0) && decide (e.lo < t))
def holdsE (e : Ev) (t : Int) : Bool := !e.dn && decide (t < e.hi)
theorem newE_cell (w : World) (e : Ev) (T : TypeId) {j : Nat} {v : Value} (h : e.list[j]? = some v) : (w.alloc (.cells e.arr T)).cell? ⟨w.heap.size, j, none⟩ = some v := by
  have := rangeNew w e T j v h; rwa [Nat.zero_add] at this
end Go.Proofs.YtlehcaacfgocaaaGreat
namespace Go.Proofs.YtlehcaacfgocaaaGreat
open Go.RowKit
open Go.Lib (hid)
theorem Own.more {w : World} {B : Nat} {v : Value} {cs : List C7} {c : C7} (h : w.ownsRow B 45 7 v (cs.length + 1) (flat cs ++ c.cells)) : Own w B v (cs ++ [c]) := by
  unfold Own; rw [flat_append, flat_single, List.length_append]; exact h
theorem Own.grows {w W0 w1 : World} {B : Nat} {v v' : Value} {cs : List C7} {c : C7} (hB : Below B w W0) (hsz : B ≤ W0.heap.size) (hlt : ∀ k, v.ownBlock = some k → B ≤ k)
    (hown' : w1.ownsRow B 45 7 v' (cs.length + 1) (flat cs ++ c.cells)) (hg : W0.grownBy w1 v.ownBlock) : Own w1 B v' (cs ++ [c]) ∧ Below B w w1 :=
  ⟨Own.more hown', hB.grown hg hsz hlt⟩
theorem new_cell {W : World} {c : C7} {g : Nat} (hg : g = W.heap.size) : ∀ (j : Nat) u, c.cells[j]? = some u → (W.alloc (.cells #[.int .i64 c.i, .int .i64 c.k, .int .i64 c.s, .int .i64 c.t, .int .i64 c.d, .int .i64 c.p, .int .i64 c.q] 45)).cell? ((⟨g, 0, none⟩ : Addr).add j) = some u := by
  intro j u hj
  subst hg
  rw [show (⟨W.heap.size, 0, none⟩ : Addr).add j = ⟨W.heap.size, j, none⟩ from by unfold Addr.add; split <;> simp_all, World.cell?_alloc_new, List.getElem?_toArray]
  exact hj
theorem cells_one (c : C7) : ∀ u ∈ c.cells, u.oneCell' = true := by
  intro u hu; simp at hu; rcases hu with rfl | rfl | rfl | rfl | rfl | rfl | rfl <;> rfl
end Go.Proofs.YtlehcaacfgocaaaGreat
namespace Go.Proofs.YtlehcaacfgocaaaGreat
set_option linter.unusedVariables false
open Go.RowKit
open Go.Lib (hid)
theorem Own.asSlice {w : World} {B : Nat} {v : Value} {cs : List C7} (h : Own w B v cs) : ∃ (g : Option Addr) (cap n : Nat), v = .slice g n cap ∧ n = cs.length := by
  rcases h.shape with ⟨e, e'⟩ | ⟨g, cap, e, _⟩
  · exact ⟨none, 0, 0, e, by rw [e']; rfl⟩
  · exact ⟨_, cap, _, e, rfl⟩
end Go.Proofs.YtlehcaacfgocaaaGreat
namespace Go.Proofs.YtlehcaacfgocaaaGreat
set_option linter.unusedVariables false
open Go.RowKit
open Go.Lib (hid)
theorem heapB {w w' : World} {q B : Nat} {o : Obj} (h : w.heap[q]? = some o) (hB : Below B w w') (hq : q < B) : w'.heap[q]? = some o := by rw [hB.block q hq]; exact h
theorem own_sl_below {w w' : World} {B : Nat} {v : Value} {cs : List C7} (h : Own w B v cs) (hb : Below w.heap.size w w') : Own w' B v cs := own_below h hb fun k hk => (h.lt k hk).2
end Go.Proofs.YtlehcaacfgocaaaGreat
namespace Go.Proofs.YtlehcaacfgocaaaGreat
set_option linter.unusedVariables false
open Go.RowKit
open Go.Lib (hid)
theorem box2_heap (w : World) (e : Ev) (T : TypeId) (o : Obj) : ((w.alloc (.cells e.arr T)).alloc o).heap[w.heap.size]? = some (.cells e.arr T) := (Below.heap_alloc _ _ _ (by simp)).trans (heap_alloc_new w _)
theorem ret_cell1 {P : Program} {fn : Func} {a : Act} {w : World} {p : Tmp} {ty : TypeId} {b o : Nat} {cs : List Value} {d : TypeDesc} (h : fn.results = #[.cell p ty]) (hp : a.tmps.getD p undef = .pointer (some ⟨b, o, none⟩))
    (hc : w.rangeAt b o cs) (ht : P.underlying ty = some d) (hd : d.isRow = true) (hi : (P.info? ty).map (·.size) = some cs.length) : (results fn a.tmps).run P w = .ok (.agg cs.toArray) w := by
  simp only [results, h]
  have h1 := run_loadVar_mid w b o ty cs d hc ht hd hi
  simp only [Array.getD_eq_getD_getElem?] at hp
  simp [hp, asAddr, h1]
end Go.Proofs.YtlehcaacfgocaaaGreat
namespace Go.Proofs.YtlehcaacfgocaaaGreat
set_option linter.unusedVariables false
open Go.RowKit
open Go.Lib (hid)
def timesB (lo hi : Int) : Bool := (decide (lo = 0) && decide (hi = 0)) || (validB lo && validB hi && decide (lo ≤ hi))
def rightE (e : Ev) (f a v : List C7) : Bool := e.c.ok && withinB e.pr 1048576 && timesB e.lo e.hi && mustB e.ft f (!decide (e.ft = 0)) && withinB e.ab 1048576 && mustB e.xt a (!decide (e.ab = 0)) && mustB e.vt v e.dn
end Go.Proofs.YtlehcaacfgocaaaGreat
namespace Go.Proofs.YtlehcaacfgocaaaGreat
set_option linter.unusedVariables false
open Go.RowKit
open Go.Lib (hid)
theorem rangeOf {W : World} {q : Nat} {e : Ev} {T : TypeId} (h : W.heap[q]? = some (.cells e.arr T (0, 0))) : W.rangeAt q 0 e.list := fun j v hv => by
  rw [Nat.zero_add, cellAt' h, ← Ev.toList] at *
  simpa using hv
theorem thereOf {W : World} {q n : Nat} {C : Array Value} {T : TypeId} (h : W.heap[q]? = some (.cells C T (0, 0))) (hn : n ≤ C.size) : W.there q 0 n := fun j hj => by
  rw [Nat.zero_add]
  refine ⟨?_, frozenAt h j⟩
  rw [cellAt' h, Array.getElem?_eq_getElem (by omega)]; rfl
def votE (e : Ev) (t : Int) (p : Sv) (full same none : Bool) : Ev × Int := if full = false then (e, 1) else if same = true then (e, 0) else if none = false then (e, 6) else ({ (resE e t).1 with ft := t, fp := p }, 0)
end Go.Proofs.YtlehcaacfgocaaaGreat
namespace Go.Proofs.YtlehcaacfgocaaaGreat
set_option linter.unusedVariables false
open Go.RowKit
open Go.Lib (hid)
open Go.Deep (blk_setCell_other nblk_setCell)
theorem infoEc (e : Ev) : (Tryz.prog.info? 67).map (·.size) = some e.list.length := by rw [Ev.len]; kernel_rfl
theorem infoEc' (e : Ev) : (Tryz.prog.info? 67).map (·.size) = some e.arr.size := by rw [Ev.size]; kernel_rfl
abbrev Ob (w : World) (q : Nat) (T : TypeId) (e : Ev) : Prop := w.heap[q]? = some (.cells e.arr T (0, 0))
theorem setsAll {q : Nat} {t : TypeId} : ∀ (vs : List Value) (o : Nat) (C : Array Value) (w : World), w.heap[q]? = some (.cells C t (0, 0)) →
    ∃ C', (w.setCells q o vs).heap[q]? = some (.cells C' t (0, 0)) ∧ C'.size = C.size ∧ (∀ j, j < o → C'[j]? = C[j]?) ∧ ∀ j, j < vs.length → o + j < C.size → C'[o + j]? = vs[j]?
  | [], o, C, w, h => ⟨C, h, rfl, fun _ _ => rfl, fun j hj => absurd hj (by simp)⟩
  | v :: vs, o, C, w, h => by
    obtain ⟨C', h1, h2, h3, h4⟩ := setsAll vs (o + 1) _ (w.setCell ⟨q, o, none⟩ v) (setAt h)
    refine ⟨C', h1, h2.trans (by simp), fun j hj => ?_, fun j hj hs => ?_⟩
    · rw [h3 j (by omega), Array.getElem?_setIfInBounds]; simp; omega
    · cases j with
      | zero =>
        rw [Nat.add_zero, h3 o (by omega), Array.getElem?_setIfInBounds]
        simp; omega
      | succ j =>
        have := h4 j (by simp at hj; omega) (by simp; omega)
        rw [show o + (j + 1) = o + 1 + j by omega, this]; rfl
theorem setsOb {w : World} {q : Nat} {T : TypeId} {C : Array Value} (e : Ev) (h : w.heap[q]? = some (.cells C T (0, 0))) (hs : C.size = 19) : Ob (w.setCells q 0 e.arr.toList) q T e := by
  obtain ⟨C', h1, h2, _, h4⟩ := setsAll e.arr.toList 0 C w h
  have : C' = e.arr := by
    apply Array.ext_getElem?
    intro j
    by_cases hj : j < 19
    · have := h4 j (by rw [Ev.toList, Ev.len]; exact hj) (by omega)
      rw [Nat.zero_add] at this
      rw [this]; simp
    · rw [Array.getElem?_eq_none (by omega), Array.getElem?_eq_none (by rw [Ev.size]; omega)]
  subst this
  exact h1
structure Upd (q : Nat) (w W : World) : Prop where
  size : W.heap.size = w.heap.size
  other : ∀ k, k < w.heap.size → k ≠ q → W.heap[k]? = w.heap[k]?
  below : ∀ B, B ≤ q → Below B w W
theorem setsUpd (w : World) (q : Nat) (vs : List Value) : Upd q w (w.setCells q 0 vs) := by
  refine ⟨?_, fun k hk hne => World.heap_setCells_other w q 0 vs hk hne, fun B hB => below_cells hB _ _ _ (Below.refl _ _)⟩
  have : ∀ (vs : List Value) (o : Nat) (w : World), (w.setCells q o vs).heap.size = w.heap.size := by
    intro vs
    induction vs with
    | nil => intro o w; rfl
    | cons v vs ih => intro o w; exact (ih (o + 1) _).trans (nblk_setCell w _ v)
  exact this vs 0 w
theorem Upd.ob {q k : Nat} {w W : World} (h : Upd q w W) {o : Obj} (hk : w.heap[k]? = some o) (hne : k ≠ q) : W.heap[k]? = some o := (h.other k (Array.getElem?_eq_some_iff.1 hk).1 hne).trans hk
theorem Ob.range {w : World} {q : Nat} {T : TypeId} {e : Ev} (h : Ob w q T e) : w.rangeAt q 0 e.list := rangeOf h
theorem Ob.cell {w : World} {q : Nat} {T : TypeId} {e : Ev} (h : Ob w q T e) {j : Nat} {v : Value} (hv : e.list[j]? = some v) : w.cell? ⟨q, j, none⟩ = some v := by
  have := h.range j v hv; rwa [Nat.zero_add] at this
theorem Ob.free {w : World} {q : Nat} {T : TypeId} {e : Ev} (h : Ob w q T e) (j : Nat) : w.frozen? ⟨q, j, none⟩ = false := frozenAt h j
theorem Ob.set {w : World} {q j : Nat} {T : TypeId} {e e' : Ev} {v : Value} (h : Ob w q T e) (he : e.arr.setIfInBounds j v = e'.arr) : Ob (w.setCell ⟨q, j, none⟩ v) q T e' := by
  have := setAt (j := j) (x := v) h
  rwa [he] at this
theorem setOther {w : World} {q j k : Nat} {v : Value} {o : Obj} (h : w.heap[k]? = some o) (hne : k ≠ q) : (w.setCell ⟨q, j, none⟩ v).heap[k]? = some o := (blk_setCell_other w ⟨q, j, none⟩ v k hne).trans h
def Room (w : World) (q : Nat) (T : TypeId) : Prop := ∃ C : Array Value, w.heap[q]? = some (.cells C T (0, 0)) ∧ C.size = 19
theorem Ob.room {w : World} {q : Nat} {T : TypeId} {e : Ev} (h : Ob w q T e) : Room w q T := ⟨_, h, e.size⟩
theorem loadC {ops : Array Oper} {rest : List Oper} {op : Oper} {a : Act} {w : World} {Q : Exit → Act → World → Prop} {x : Operand} {b : Nat} (e : Ev) (hgd : op.guard = none) (ho : op.op = .load 67 x)
    (hx : a.eval x = .pointer (some ⟨b, 0, none⟩)) {T : TypeId} (hc : Ob w b T e) (h : wpList Tryz.prog ops Q rest (a.put op.dst (.agg e.arr)) w) : wpList Tryz.prog ops Q (op :: rest) a w :=
  wpList_load_mid hgd 67 x ho b 0 hx e.list _ hc.range Tryz.underlying67 rfl (infoEc e) h
theorem storeC {ops : Array Oper} {rest : List Oper} {op : Oper} {a : Act} {w : World} {Q : Exit → Act → World → Prop} {x y : Operand} {b : Nat} {T : TypeId} (e : Ev) (hgd : op.guard = none) (ho : op.op = .store 67 x y)
    (hx : a.eval x = .pointer (some ⟨b, 0, none⟩)) (hy : a.eval y = .agg e.arr) (hC : Room w b T) (h : ∀ W, Ob W b T e → Upd b w W → wpList Tryz.prog ops Q rest (a.put op.dst undef) W) : wpList Tryz.prog ops Q (op :: rest) a w := by
  obtain ⟨C, hC, hs⟩ := hC
  exact wpList_store_mid hgd 67 x y ho b 0 e.arr hx hy (thereOf hC (by rw [hs]; exact Nat.le_refl _)) (infoEc' e) (Ev.one e) (h _ (setsOb e hC hs) (setsUpd w b _))
theorem uponStore {op : Oper} {a : Act} {w : World} {K : Act → World → Prop} {Q : Exit → Act → World → Prop} {q : Nat} {T : TypeId} {e : Ev} (hC : Room w q T) (h : ∀ W, Ob W q T e → Upd q w W → K (a.put op.dst undef) W) :
    Oper.upon Tryz.prog op a K Q ((Sem.run Tryz.prog (storeCells ⟨q, 0, none⟩ e.arr.toList) w).andThen fun _ w' => Result.ok Next.skip w') := by
  obtain ⟨C, hC, hs⟩ := hC
  have ht : w.there q 0 19 := thereOf hC (by rw [hs]; exact Nat.le_refl _)
  have hl : e.arr.toList.length = 19 := by rw [Ev.toList]; rfl
  have hr : Sem.run Tryz.prog (storeCells ⟨q, 0, none⟩ e.arr.toList) w = .ok () (w.setCells q 0 e.arr.toList) :=
    run_storeCells_cells (P := Tryz.prog) q 0 e.arr.toList 0 w (fun j hj => (ht j (by omega)).1) (fun j hj => (ht j (by omega)).2) (fun v hv => (Array.all_eq_true_iff_forall_mem.1 (Ev.one e)) v (by simpa using hv))
  rw [hr]
  exact h _ (setsOb e hC hs) (setsUpd w q _)
theorem opaqueW {P : Program} {ops : Array Oper} {l : List Oper} {a : Act} {Q : Exit → Act → World → Prop} (w : World) (h : ∀ W, W = w → wpList P ops Q l a W) : wpList P ops Q l a w := h w rfl
abbrev zeroEc : Obj := .cells #[.int .i64 0, .int .i64 0, .int .i64 0, .int .i64 0, .int .i64 0, .int .i64 0, .int .i64 0, .int .i64 0, .int .i64 0, .int .i64 0, .int .i64 0, .slice none 0 0, .int .i64 0, .int .i64 0, .slice none 0 0, .bool false, .bool false, .int .i64 0, .slice none 0 0] 67
abbrev zE : Ev := ⟨⟨0, 0, 0, 0, 0, 0, 0⟩, 0, 0, 0, 0, ⟨none, 0, 0⟩, 0, 0, ⟨none, 0, 0⟩, false, false, 0, ⟨none, 0, 0⟩⟩
theorem obAlloc {k : Nat} {o x : Obj} {W : World} (h : W.heap[k]? = some o) : (W.alloc x).heap[k]? = some o := (Below.heap_alloc _ _ _ (Array.getElem?_eq_some_iff.1 h).1).trans h
theorem obDrew {k : Nat} {o : Obj} {W : World} (h : W.heap[k]? = some o) : W.drew.heap[k]? = some o := h
theorem belowDrew {B : Nat} {w W : World} (h : Below B w W) : Below B w W.drew := ⟨h.1, h.2, h.3, h.4, h.5⟩
theorem laid1_0 (w : World) (o0 : Obj) : (w.alloc o0).heap[w.heap.size]? = some o0 := by
  have h0 : (w.alloc o0).heap[w.heap.size]? = some o0 := (heap_alloc_new w o0)
  exact h0
theorem laid1_b (w : World) (o0 : Obj) : Below w.heap.size w (w.alloc o0) := ((Below.refl w.heap.size w).alloc (Nat.le_refl _) o0)
theorem laid2_0 (w : World) (o0 o1 : Obj) : ((w.alloc o0).alloc o1).heap[w.heap.size]? = some o0 := by
  have h0 : (w.alloc o0).heap[w.heap.size]? = some o0 := (heap_alloc_new w o0)
  have ho1 : ((w.alloc o0).alloc o1).heap[w.heap.size]? = some o0 := (Below.heap_alloc _ _ _ (by simp; try omega)).trans h0
  exact ho1
theorem laid2_1 (w : World) (o0 o1 : Obj) : ((w.alloc o0).alloc o1).heap[w.heap.size + 1]? = some o1 := by
  have h1 : ((w.alloc o0).alloc o1).heap[w.heap.size + 1]? = some o1 := (by have := heap_alloc_new (w.alloc o0) o1; simpa [Nat.add_assoc] using this)
  exact h1
theorem laid2_b (w : World) (o0 o1 : Obj) : Below w.heap.size w ((w.alloc o0).alloc o1) := (((Below.refl w.heap.size w).alloc (Nat.le_refl _) o0).alloc (by simp; try omega) o1)
theorem laid3_0 (w : World) (o0 o1 o2 : Obj) : (((w.alloc o0).alloc o1).alloc o2).heap[w.heap.size]? = some o0 := by
  have h0 : (w.alloc o0).heap[w.heap.size]? = some o0 := (heap_alloc_new w o0)
  have ho1 : ((w.alloc o0).alloc o1).heap[w.heap.size]? = some o0 := (Below.heap_alloc _ _ _ (by simp; try omega)).trans h0
  have ho2 : (((w.alloc o0).alloc o1).alloc o2).heap[w.heap.size]? = some o0 := (Below.heap_alloc _ _ _ (by simp; try omega)).trans ho1
  exact ho2
theorem laid3_1 (w : World) (o0 o1 o2 : Obj) : (((w.alloc o0).alloc o1).alloc o2).heap[w.heap.size + 1]? = some o1 := by
  have h1 : ((w.alloc o0).alloc o1).heap[w.heap.size + 1]? = some o1 := (by have := heap_alloc_new (w.alloc o0) o1; simpa [Nat.add_assoc] using this)
  have ho2 : (((w.alloc o0).alloc o1).alloc o2).heap[w.heap.size + 1]? = some o1 := (Below.heap_alloc _ _ _ (by simp; try omega)).trans h1
  exact ho2
theorem laid3_2 (w : World) (o0 o1 o2 : Obj) : (((w.alloc o0).alloc o1).alloc o2).heap[w.heap.size + 2]? = some o2 := by
  have h2 : (((w.alloc o0).alloc o1).alloc o2).heap[w.heap.size + 2]? = some o2 := (by have := heap_alloc_new ((w.alloc o0).alloc o1) o2; simpa [Nat.add_assoc] using this)
  exact h2
theorem laid3_b (w : World) (o0 o1 o2 : Obj) : Below w.heap.size w (((w.alloc o0).alloc o1).alloc o2) := ((((Below.refl w.heap.size w).alloc (Nat.le_refl _) o0).alloc (by simp; try omega) o1).alloc (by simp; try omega) o2)
theorem laid4_0 (w : World) (o0 o1 o2 o3 : Obj) : ((((w.alloc o0).alloc o1).alloc o2).alloc o3).heap[w.heap.size]? = some o0 := by
  have h0 : (w.alloc o0).heap[w.heap.size]? = some o0 := (heap_alloc_new w o0)
  have ho1 : ((w.alloc o0).alloc o1).heap[w.heap.size]? = some o0 := (Below.heap_alloc _ _ _ (by simp; try omega)).trans h0
  have ho2 : (((w.alloc o0).alloc o1).alloc o2).heap[w.heap.size]? = some o0 := (Below.heap_alloc _ _ _ (by simp; try omega)).trans ho1
  have ho3 : ((((w.alloc o0).alloc o1).alloc o2).alloc o3).heap[w.heap.size]? = some o0 := (Below.heap_alloc _ _ _ (by simp; try omega)).trans ho2
  exact ho3
theorem laid4_1 (w : World) (o0 o1 o2 o3 : Obj) : ((((w.alloc o0).alloc o1).alloc o2).alloc o3).heap[w.heap.size + 1]? = some o1 := by
  have h1 : ((w.alloc o0).alloc o1).heap[w.heap.size + 1]? = some o1 := (by have := heap_alloc_new (w.alloc o0) o1; simpa [Nat.add_assoc] using this)
  have ho2 : (((w.alloc o0).alloc o1).alloc o2).heap[w.heap.size + 1]? = some o1 := (Below.heap_alloc _ _ _ (by simp; try omega)).trans h1
  have ho3 : ((((w.alloc o0).alloc o1).alloc o2).alloc o3).heap[w.heap.size + 1]? = some o1 := (Below.heap_alloc _ _ _ (by simp; try omega)).trans ho2
  exact ho3
theorem laid4_2 (w : World) (o0 o1 o2 o3 : Obj) : ((((w.alloc o0).alloc o1).alloc o2).alloc o3).heap[w.heap.size + 2]? = some o2 := by
  have h2 : (((w.alloc o0).alloc o1).alloc o2).heap[w.heap.size + 2]? = some o2 := (by have := heap_alloc_new ((w.alloc o0).alloc o1) o2; simpa [Nat.add_assoc] using this)
  have ho3 : ((((w.alloc o0).alloc o1).alloc o2).alloc o3).heap[w.heap.size + 2]? = some o2 := (Below.heap_alloc _ _ _ (by simp; try omega)).trans h2
  exact ho3
theorem laid4_3 (w : World) (o0 o1 o2 o3 : Obj) : ((((w.alloc o0).alloc o1).alloc o2).alloc o3).heap[w.heap.size + 3]? = some o3 := by
  have h3 : ((((w.alloc o0).alloc o1).alloc o2).alloc o3).heap[w.heap.size + 3]? = some o3 := (by have := heap_alloc_new (((w.alloc o0).alloc o1).alloc o2) o3; simpa [Nat.add_assoc] using this)
  exact h3
theorem laid4_b (w : World) (o0 o1 o2 o3 : Obj) : Below w.heap.size w ((((w.alloc o0).alloc o1).alloc o2).alloc o3) := (((((Below.refl w.heap.size w).alloc (Nat.le_refl _) o0).alloc (by simp; try omega) o1).alloc (by simp; try omega) o2).alloc (by simp; try omega) o3)
end Go.Proofs.YtlehcaacfgocaaaGreat
