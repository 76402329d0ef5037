import Derived.Test.YtmggggijamligaaG00
import Derived.OwnWalk
import Derived.Deep.QuietTactic
import Derived.BigQuiet
import Derived.Deep.MidRow
import Derived.Laws.ResultCell
import Derived.Deep.Light
import Derived.Deep.CutRange
namespace Go.Proofs.Ytmggggijamligaa
set_option linter.unusedVariables false
open Go.RowKit
open Go.Lib (hid)
def SlN (w : World) (v : Value) (l : List Int) : Prop :=
  ∃ (b o cap : Nat) (a : Option Addr), v = .slice a l.length cap ∧ (0 < l.length → a = some ⟨b, o, none⟩) ∧ (∀ (j : Nat) x, l[j]? = some x → w.cell? ⟨b, o + j, none⟩ = some (.int .i64 x)) ∧ (0 < l.length → b < w.heap.size)
theorem SlN.on {w w' : World} {v : Value} {l : List Int} (h : SlN w v l) (hb : Below w.heap.size w w') : SlN w' v l := by
  obtain ⟨b, o, cap, a, rfl, ha, hc, hl⟩ := h
  refine ⟨b, o, cap, a, rfl, ha, fun j x hx => ?_, fun h0 => by have := hl h0; have := hb.size; omega⟩
  have h0 : 0 < l.length := by have := (List.getElem?_eq_some_iff.1 hx).1; omega
  rw [hb.cell (p := ⟨b, o + j, none⟩) (hl h0)]
  exact hc j x hx
theorem takeN_snoc {α : Type} {cs : List α} {k : Nat} {c : α} (hc : cs[k]? = some c) : cs.take (k + 1) = cs.take k ++ [c] := by
  rw [List.take_add_one, hc]; rfl
theorem OwnB.grows {w W0 w1 : World} {B n : Nat} {v v' : Value} {a b : List UInt8} (hB : Below B w W0) (hsz : B ≤ W0.heap.size) (hlt : ∀ k, v.ownBlock = some k → B ≤ k)
    (hown' : w1.ownsRow B 5 1 v' n (octs a ++ octs b)) (hn : n = a.length + b.length) (hg : W0.grownBy w1 v.ownBlock) : OwnB w1 B v' (a ++ b) ∧ Below B w w1 :=
  ⟨by unfold OwnB; rw [octs_append, List.length_append, ← hn]; exact hown', hB.grown hg hsz hlt⟩
theorem OwnB.asSlice {w : World} {B : Nat} {v : Value} {l : List UInt8} (h : OwnB w B v l) : ∃ (g : Option Addr) (cap n : Nat), v = .slice g n cap ∧ n = l.length := by
  rcases h.shape with ⟨e, e'⟩ | ⟨g, cap, e, _⟩
  · exact ⟨none, 0, 0, e, by rw [e']; rfl⟩
  · exact ⟨_, cap, _, e, rfl⟩
def C7.nums (c : C7) : List Int := [c.i, c.k, c.s, c.t, c.d, c.p, c.q]
end Go.Proofs.Ytmggggijamligaa
namespace Go.Proofs.Ytmggggijamligaa
set_option linter.unusedVariables false
open Go.RowKit
open Go.Lib (hid)
end Go.Proofs.Ytmggggijamligaa
namespace Go.Proofs.Ytmggggijamligaa
set_option linter.unusedVariables false
open Go.RowKit
open Go.Lib (hid)
def ints (l : List Int) : List Value := l.map (Value.int .i64)
theorem ints_append (a b : List Int) : ints (a ++ b) = ints a ++ ints b := by simp [ints]
abbrev OwnN (w : World) (B : Nat) (v : Value) (l : List Int) : Prop := w.ownsRow B 3 1 v l.length (ints l)
theorem OwnN.sl {w : World} {B : Nat} {v : Value} {l : List Int} (h : OwnN w B v l) : SlN w v l := by
  have hl := h.lt
  rcases h.2 with ⟨rfl, h0⟩ | ⟨g, cap, cur, rfl, hb, hg, hn, hm, hs, ht⟩
  · obtain rfl := List.length_eq_zero_iff.1 h0
    exact ⟨0, 0, 0, none, rfl, fun h => absurd h (by simp), fun j x hx => by simp at hx, fun h => absurd h (by simp)⟩
  · refine ⟨g, 0, cap, _, rfl, fun _ => rfl, fun j x hx => ?_, fun _ => (hl g rfl).2⟩
    have hj := (List.getElem?_eq_some_iff.1 hx).1
    rw [Nat.zero_add, h.cellAt j (by omega)]
    simp [ints, hx]
theorem own_below {w w' : World} {B C : Nat} {e : TypeId} {size : Nat} {v : Value} {n : Nat} {xs : List Value} (h : w.ownsRow B e size v n xs) (hb : Below C w w') (hC : ∀ k, v.ownBlock = some k → k < C) : w'.ownsRow B e size v n xs := by
  refine ⟨h.1, ?_⟩
  rcases h.2 with h2 | ⟨g, cap, cur, rfl, h1, hg, r⟩
  · exact .inl h2
  · exact .inr ⟨g, cap, cur, rfl, h1, by rw [hb.block g (hC g rfl)]; exact hg, r⟩
theorem OwnN.lit (w : World) (x : Int) : OwnN (w.alloc (.cells #[.int .i64 x] 3)) w.heap.size (.slice (some ⟨w.heap.size, 0, none⟩) 1 1) [x] :=
  ⟨rfl, .inr ⟨w.heap.size, 1, _, rfl, Nat.le_refl _, heap_alloc_new w _, Nat.le_refl _, by unfold maxLen; omega, rfl, rfl⟩⟩
theorem OwnN.asSlice {w : World} {B : Nat} {v : Value} {l : List Int} (h : OwnN w B v l) : ∃ (g : Option Addr) (cap n : Nat), v = .slice g n cap ∧ n = l.length := by
  rcases h.2 with ⟨rfl, h0⟩ | ⟨g, cap, cur, rfl, _⟩
  · exact ⟨none, 0, 0, rfl, h0.symm⟩
  · exact ⟨_, cap, _, rfl, rfl⟩
theorem OwnN.grows {w W0 w1 : World} {B n : Nat} {v v' : Value} {a b : List Int} (hB : Below B w W0) (hsz : B ≤ W0.heap.size) (hlt : ∀ k, v.ownBlock = some k → B ≤ k)
    (hown' : w1.ownsRow B 3 1 v' n (ints a ++ ints b)) (hn : n = a.length + b.length) (hg : W0.grownBy w1 v.ownBlock) : OwnN w1 B v' (a ++ b) ∧ Below B w w1 :=
  ⟨by unfold OwnN; rw [ints_append, List.length_append, ← hn]; exact hown', hB.grown hg hsz hlt⟩
end Go.Proofs.Ytmggggijamligaa
namespace Go.Proofs.Ytmggggijamligaa
set_option linter.unusedVariables false
open Go.RowKit
open Go.Lib (hid)
theorem OwnB.some {w : World} {B : Nat} {v : Value} {l : List UInt8} (h : OwnB w B v l) (hl : l ≠ []) : ∃ g cap, v = .slice (Option.some ⟨g, 0, none⟩) l.length cap := by
  rcases h.shape with ⟨_, e⟩ | ⟨g, cap, e, _⟩
  · exact absurd e hl
  · exact ⟨g, cap, e⟩
end Go.Proofs.Ytmggggijamligaa
namespace Go.Proofs.Ytmggggijamligaa
set_option linter.unusedVariables false
open Go.RowKit
open Go.Lib (hid)
def SlB (w : World) (v : Value) (l : List UInt8) : Prop :=
  ∃ (b o cap : Nat) (a : Option Addr), v = .slice a l.length cap ∧ (a = none → cap = 0) ∧ l.length ≤ cap ∧ (0 < l.length → a = some ⟨b, o, none⟩) ∧ (∀ (j : Nat) x, l[j]? = some x → w.cell? ⟨b, o + j, none⟩ = some (.int .u8 x.toNat)) ∧ (0 < l.length → b < w.heap.size)
theorem SlB.nil (w : World) : SlB w (.slice none 0 0) [] := ⟨0, 0, 0, none, rfl, fun _ => rfl, Nat.le_refl _, fun h => absurd h (by simp), fun j x hx => by simp at hx, fun h => absurd h (by simp)⟩
def Rd (T : TypeId) (F : Nat → Prop) (w : World) (p : Nat) (s : St) : Prop :=
  ∃ v, w.heap[p]? = some (.cells #[v, .int .i64 s.2] T (0, 0)) ∧ SlB w v s.1 ∧ (∀ k, v.ownBlock = some k → F k) ∧ ¬ F p
theorem SlB.same {w w' : World} {v : Value} {l : List UInt8} (h : SlB w v l) (hs : w.heap.size ≤ w'.heap.size) (hb : ∀ k, v.ownBlock = some k → k < w.heap.size → w'.heap[k]? = w.heap[k]?) : SlB w' v l := by
  obtain ⟨b, o, cap, a, rfl, hn, hc, ha, hcl, hl⟩ := h
  refine ⟨b, o, cap, a, rfl, hn, hc, ha, fun j x hx => ?_, fun h0 => by have := hl h0; omega⟩
  have h0 : 0 < l.length := by have := (List.getElem?_eq_some_iff.1 hx).1; omega
  obtain rfl := ha h0
  have := hb b rfl (hl h0)
  rw [← hcl j x hx]
  simp only [World.cell?, this]
theorem SlB.on {w w' : World} {v : Value} {l : List UInt8} (h : SlB w v l) (hb : Below w.heap.size w w') : SlB w' v l := h.same hb.size fun k _ hk => hb.block k hk
theorem Rd.lt {T : TypeId} {F : Nat → Prop} {w : World} {p : Nat} {s : St} (h : Rd T F w p s) : p < w.heap.size := by
  obtain ⟨v, hp, _⟩ := h
  exact (Array.getElem?_eq_some_iff.1 hp).1
theorem Rd.out {T : TypeId} {F : Nat → Prop} {w : World} {p : Nat} {s : St} (h : Rd T F w p s) : ¬ F p := by
  obtain ⟨v, hp, _, _, hf⟩ := h
  exact hf
theorem Rd.on {T : TypeId} {F : Nat → Prop} {w w' : World} {p : Nat} {s : St} (h : Rd T F w p s) (hb : Below w.heap.size w w') : Rd T F w' p s := by
  have hl := h.lt
  obtain ⟨v, hp, hs, hF, hf⟩ := h
  exact ⟨v, by rw [hb.block p hl]; exact hp, hs.on hb, hF, hf⟩
theorem Rd.cells {T : TypeId} {F : Nat → Prop} {w : World} {p : Nat} {s : St} (h : Rd T F w p s) : ∃ v, w.heap[p]? = some (.cells #[v, .int .i64 s.2] T (0, 0)) ∧ p < w.heap.size ∧ w.cell? ⟨p, 0, none⟩ = some v ∧ w.cell? ⟨p, 1, none⟩ = some (.int .i64 s.2) ∧ w.frozen? ⟨p, 0, none⟩ = false ∧ w.frozen? ⟨p, 1, none⟩ = false ∧ SlB w v s.1 ∧ (∀ k, v.ownBlock = some k → F k) := by
  obtain ⟨v, hp, hs, hF, hf⟩ := h
  exact ⟨v, hp, (Array.getElem?_eq_some_iff.1 hp).1, by simp [World.cell?, hp], by simp [World.cell?, hp], by simp [World.frozen?, hp], by simp [World.frozen?, hp], hs, hF⟩
theorem grownSet (w : World) (a : Addr) (u : Value) : w.grownBy (w.setCell a u) (some a.block) :=
  ⟨rfl, rfl, rfl, by simp [World.setCell], fun k _ hk => by
    have hne : a.block ≠ k := fun e => hk (by rw [e])
    simp [World.setCell, Array.getElem?_modify, hne]⟩
theorem grownRefl (w : World) (row : Option Nat) : w.grownBy w row := ⟨rfl, rfl, rfl, Nat.le_refl _, fun _ _ _ => rfl⟩
theorem grownTrans {a b c : World} {row : Option Nat} (h : a.grownBy b row) (k : b.grownBy c row) : a.grownBy c row :=
  ⟨k.os.trans h.os, k.tape.trans h.tape, k.output.trans h.output, Nat.le_trans h.size k.size, fun i hi hn => (k.block i (Nat.lt_of_lt_of_le hi h.size) hn).trans (h.block i hi hn)⟩
theorem grownBelow {a b : World} (h : Below a.heap.size a b) (row : Option Nat) : a.grownBy b row := ⟨h.os, h.tape, h.output, h.size, fun k hk _ => h.block k hk⟩
theorem grownDrew {a b : World} {row : Option Nat} (h : a.grownBy b row) : a.grownBy b.drew row := ⟨h.os, h.tape, h.output, h.size, h.block⟩
theorem SlB.drop {w : World} {b o cap : Nat} {l : List UInt8} (k : Nat) (hk : k ≤ l.length) (hlen : 0 < l.length) (hc : ∀ (j : Nat) x, l[j]? = some x → w.cell? ⟨b, o + j, none⟩ = some (.int .u8 x.toNat)) (hn : l.length ≤ cap) (hb : b < w.heap.size) :
    SlB w (.slice (some ⟨b, o + k, none⟩) (l.length - k) (cap - k)) (l.drop k) := by
  refine ⟨b, o + k, cap - k, _, by rw [List.length_drop], by simp, by rw [List.length_drop]; omega, fun _ => rfl, fun j x hx => ?_, fun _ => hb⟩
  rw [List.getElem?_drop] at hx
  rw [Nat.add_assoc]; exact hc _ x hx
theorem SlB.nothing {w : World} {a : Option Addr} {n c : Nat} {l : List UInt8} (hl : l.length = 0) (hn : n = 0) (hc : c = 0) : SlB w (.slice a n c) l := by
  subst hn hc
  obtain rfl := List.length_eq_zero_iff.1 hl
  exact ⟨0, 0, 0, a, rfl, fun _ => rfl, Nat.le_refl _, fun h => absurd h (by simp), fun j x hx => by simp at hx, fun h => absurd h (by simp)⟩
theorem SlB.of {w : World} {v v' : Value} {l : List UInt8} (h : SlB w v l) (e : v' = v) : SlB w v' l := e ▸ h
end Go.Proofs.Ytmggggijamligaa
namespace Go.Proofs.Ytmggggijamligaa
set_option linter.unusedVariables false
open Go.RowKit
open Go.Lib (hid)
end Go.Proofs.Ytmggggijamligaa
namespace Go.Proofs.Ytmggggijamligaa
set_option linter.unusedVariables false
open Go.RowKit
open Go.Lib (hid)
theorem Rd.alloc {T : TypeId} {F : Nat → Prop} {w : World} {p : Nat} {s : St} (h : Rd T F w p s) (o : Obj) : Rd T F (w.alloc o) p s := h.on ((Below.refl _ w).alloc (Nat.le_refl _) o)
theorem Rd.drewN {T : TypeId} {F : Nat → Prop} {w : World} {p : Nat} {s : St} (h : Rd T F w p s) (n : Nat) : Rd T F (w.drewN n) p s := h.on (Below.drewN' (Below.refl _ w) n)
theorem setAt {w : World} {q j : Nat} {vs : Array Value} {x : Value} {t : TypeId} (h : w.heap[q]? = some (.cells vs t (0, 0))) : (w.setCell ⟨q, j, none⟩ x).heap[q]? = some (.cells (vs.setIfInBounds j x) t (0, 0)) := by
  show (w.heap.modify q _)[q]? = _
  obtain ⟨hlt, hk⟩ := Array.getElem?_eq_some_iff.1 h
  rw [Array.getElem?_eq_getElem (by rw [Array.size_modify]; exact hlt), Array.getElem_modify_self, hk]
  rfl
theorem cellAt' {w : World} {q : Nat} {vs : Array Value} {t : TypeId} (h : w.heap[q]? = some (.cells vs t (0, 0))) (j : Nat) : w.cell? ⟨q, j, none⟩ = vs[j]? := cell_of_row w q j vs t (0, 0) h
theorem frozenAt {w : World} {q : Nat} {vs : Array Value} {t : TypeId} (h : w.heap[q]? = some (.cells vs t (0, 0))) (j : Nat) : w.frozen? ⟨q, j, none⟩ = false := by simp [World.frozen?, h]
theorem OwnN.cell {w : World} {B : Nat} {v : Value} {l : List Int} (h : OwnN w B v l) (h0 : 0 < l.length) : ∃ g cap, v = .slice (some ⟨g, 0, none⟩) l.length cap ∧ B ≤ g ∧ g < w.heap.size ∧ ∀ (j : Nat) x, l[j]? = some x → w.cell? ⟨g, j, none⟩ = some (.int .i64 x) := by
  have hl := h.lt
  rcases h.2 with ⟨rfl, e0⟩ | ⟨g, cap, cur, rfl, hb, hg, hn, hm, hs, ht⟩
  · omega
  · refine ⟨g, cap, rfl, hb, (hl g rfl).2, fun j x hx => ?_⟩
    have hj := (List.getElem?_eq_some_iff.1 hx).1
    rw [h.cellAt j (by omega)]
    simp [ints, hx]
end Go.Proofs.Ytmggggijamligaa
namespace Go.Proofs.Ytmggggijamligaa
set_option linter.unusedVariables false
open Go.RowKit
open Go.Lib (hid)
end Go.Proofs.Ytmggggijamligaa
namespace Go.Proofs.Ytmggggijamligaa
set_option linter.unusedVariables false
open Go.RowKit
open Go.Lib (hid)
structure Sv where
  a : Option Addr
  n : Nat
  c : Nat
structure Ev where
  c : C7
  pr : Int
  lo : Int
  hi : Int
  ft : Int
  fp : Sv
  ab : Int
  xt : Int
  xp : Sv
  fr : Bool
  dn : Bool
  vt : Int
  vp : Sv
abbrev Sv.v (s : Sv) : Value := .slice s.a s.n s.c
def Ev.list (e : Ev) : List Value := [.int .i64 e.c.i, .int .i64 e.c.k, .int .i64 e.c.s, .int .i64 e.c.t, .int .i64 e.c.d, .int .i64 e.c.p, .int .i64 e.c.q, .int .i64 e.pr, .int .i64 e.lo, .int .i64 e.hi, .int .i64 e.ft, e.fp.v, .int .i64 e.ab, .int .i64 e.xt, e.xp.v, .bool e.fr, .bool e.dn, .int .i64 e.vt, e.vp.v]
def Ev.arr (e : Ev) : Array Value := e.list.toArray
theorem Ev.len (e : Ev) : e.list.length = 19 := rfl
theorem Ev.size (e : Ev) : e.arr.size = 19 := rfl
theorem Ev.toList (e : Ev) : e.arr.toList = e.list := by unfold Ev.arr; simp
theorem Ev.one (e : Ev) : e.arr.all (·.oneCell') = true := all_oneCell_toArray fun v hv => by
  unfold Ev.list at hv; simp at hv
  rcases hv with h | h | h | h | h | h | h | h | h | h | h | h | h | h | h | h | h | h | h <;> subst h <;> rfl
theorem rangeNew (w : World) (e : Ev) (T : TypeId) : (w.alloc (.cells e.arr T)).rangeAt w.heap.size 0 e.list := fun j v hv => by
  rw [Nat.zero_add, World.cell?_alloc_new, ← Ev.toList] at *
  simpa using hv
theorem thereNew (w : World) (C : Array Value) (T : TypeId) (n : Nat) (h : n ≤ C.size) : (w.alloc (.cells C T)).there w.heap.size 0 n := fun j hj => by
  rw [Nat.zero_add, World.cell?_alloc_new]
  refine ⟨?_, frozenAt (vs := C) (t := T) (heap_alloc_new w (.cells C T)) j⟩
  rw [Array.getElem?_eq_getElem (by omega)]; rfl
theorem below_cells {B : Nat} {a : World} {b : Nat} (hb : B ≤ b) : ∀ (vs : List Value) (o : Nat) (w : World), Below B a w → Below B a (w.setCells b o vs)
  | [], o, w, h => h
  | v :: vs, o, w, h => by
    show Below B a ((w.setCell ⟨b, o, none⟩ v).setCells b (o + 1) vs)
    exact below_cells hb vs (o + 1) _ (h.setCell hb v)
theorem infoE (e : Ev) : (Try.prog.info? 39).map (·.size) = some e.list.length := by rw [Ev.len]; kernel_rfl
theorem infoE' (e : Ev) : (Try.prog.info? 39).map (·.size) = some e.arr.size := by rw [Ev.size]; kernel_rfl
abbrev zeroE : Obj := .cells #[.int .i64 0, .int .i64 0, .int .i64 0, .int .i64 0, .int .i64 0, .int .i64 0, .int .i64 0, .int .i64 0, .int .i64 0, .int .i64 0, .int .i64 0, .slice none 0 0, .int .i64 0, .int .i64 0, .slice none 0 0, .bool false, .bool false, .int .i64 0, .slice none 0 0] 39
theorem setsE {w : World} {b : Nat} {e : Ev} (h : w.there b 0 19) : (w.setCells b 0 e.arr.toList).rangeAt b 0 e.list := by
  rw [Ev.toList]; exact World.rangeAt_setCells_same w b 0 e.list h
end Go.Proofs.Ytmggggijamligaa
namespace Go.Proofs.Ytmggggijamligaa
set_option linter.unusedVariables false
open Go.RowKit
open Go.Lib (hid)
theorem newE_cell (w : World) (e : Ev) (T : TypeId) {j : Nat} {v : Value} (h : e.list[j]? = some v) : (w.alloc (.cells e.arr T)).cell? ⟨w.heap.size, j, none⟩ = some v := by
  have := rangeNew w e T j v h; rwa [Nat.zero_add] at this
end Go.Proofs.Ytmggggijamligaa
namespace Go.Proofs.Ytmggggijamligaa
open Go.RowKit
open Go.Lib (hid)
theorem Own.more {w : World} {B : Nat} {v : Value} {cs : List C7} {c : C7} (h : w.ownsRow B 31 7 v (cs.length + 1) (flat cs ++ c.cells)) : Own w B v (cs ++ [c]) := by
  unfold Own; rw [flat_append, flat_single, List.length_append]; exact h
theorem Own.grows {w W0 w1 : World} {B : Nat} {v v' : Value} {cs : List C7} {c : C7} (hB : Below B w W0) (hsz : B ≤ W0.heap.size) (hlt : ∀ k, v.ownBlock = some k → B ≤ k)
    (hown' : w1.ownsRow B 31 7 v' (cs.length + 1) (flat cs ++ c.cells)) (hg : W0.grownBy w1 v.ownBlock) : Own w1 B v' (cs ++ [c]) ∧ Below B w w1 :=
  ⟨Own.more hown', hB.grown hg hsz hlt⟩
theorem new_cell {W : World} {c : C7} {g : Nat} (hg : g = W.heap.size) : ∀ (j : Nat) u, c.cells[j]? = some u → (W.alloc (.cells #[.int .i64 c.i, .int .i64 c.k, .int .i64 c.s, .int .i64 c.t, .int .i64 c.d, .int .i64 c.p, .int .i64 c.q] 31)).cell? ((⟨g, 0, none⟩ : Addr).add j) = some u := by
  intro j u hj
  subst hg
  rw [show (⟨W.heap.size, 0, none⟩ : Addr).add j = ⟨W.heap.size, j, none⟩ from by unfold Addr.add; split <;> simp_all, World.cell?_alloc_new, List.getElem?_toArray]
  exact hj
theorem cells_one (c : C7) : ∀ u ∈ c.cells, u.oneCell' = true := by
  intro u hu; simp at hu; rcases hu with rfl | rfl | rfl | rfl | rfl | rfl | rfl <;> rfl
end Go.Proofs.Ytmggggijamligaa
namespace Go.Proofs.Ytmggggijamligaa
set_option linter.unusedVariables false
open Go.RowKit
open Go.Lib (hid)
theorem Own.asSlice {w : World} {B : Nat} {v : Value} {cs : List C7} (h : Own w B v cs) : ∃ (g : Option Addr) (cap n : Nat), v = .slice g n cap ∧ n = cs.length := by
  rcases h.shape with ⟨e, e'⟩ | ⟨g, cap, e, _⟩
  · exact ⟨none, 0, 0, e, by rw [e']; rfl⟩
  · exact ⟨_, cap, _, e, rfl⟩
end Go.Proofs.Ytmggggijamligaa
namespace Go.Proofs.Ytmggggijamligaa
set_option linter.unusedVariables false
open Go.RowKit
open Go.Lib (hid)
end Go.Proofs.Ytmggggijamligaa
namespace Go.Proofs.Ytmggggijamligaa
set_option linter.unusedVariables false
open Go.RowKit
open Go.Lib (hid)
theorem box2_heap (w : World) (e : Ev) (T : TypeId) (o : Obj) : ((w.alloc (.cells e.arr T)).alloc o).heap[w.heap.size]? = some (.cells e.arr T) := (Below.heap_alloc _ _ _ (by simp)).trans (heap_alloc_new w _)
theorem ret_cell1 {P : Program} {fn : Func} {a : Act} {w : World} {p : Tmp} {ty : TypeId} {b o : Nat} {cs : List Value} {d : TypeDesc} (h : fn.results = #[.cell p ty]) (hp : a.tmps.getD p undef = .pointer (some ⟨b, o, none⟩))
    (hc : w.rangeAt b o cs) (ht : P.underlying ty = some d) (hd : d.isRow = true) (hi : (P.info? ty).map (·.size) = some cs.length) : (results fn a.tmps).run P w = .ok (.agg cs.toArray) w := by
  simp only [results, h]
  have h1 := run_loadVar_mid w b o ty cs d hc ht hd hi
  simp only [Array.getD_eq_getD_getElem?] at hp
  simp [hp, asAddr, h1]
set_option maxHeartbeats 1600000 in
set_option maxRecDepth 100000 in
theorem cOf (e : Ev) (w : World) : Calls Try.prog 19 #[.agg e.arr] w fun x w' => x = .returned (.agg e.arr) ∧ Below w.heap.size w w' := by
  have hh := box2_heap w e 55 zeroE
  have c0 : ((w.alloc (.cells e.arr 55)).alloc zeroE).cell? ⟨w.heap.size, 0, none⟩ = some (.int .i64 e.c.i) := (cellAt' hh 0).trans rfl
  have c1 : ((w.alloc (.cells e.arr 55)).alloc zeroE).cell? ⟨w.heap.size, 1, none⟩ = some (.int .i64 e.c.k) := (cellAt' hh 1).trans rfl
  have c2 : ((w.alloc (.cells e.arr 55)).alloc zeroE).cell? ⟨w.heap.size, 2, none⟩ = some (.int .i64 e.c.s) := (cellAt' hh 2).trans rfl
  have c3 : ((w.alloc (.cells e.arr 55)).alloc zeroE).cell? ⟨w.heap.size, 3, none⟩ = some (.int .i64 e.c.t) := (cellAt' hh 3).trans rfl
  have c4 : ((w.alloc (.cells e.arr 55)).alloc zeroE).cell? ⟨w.heap.size, 4, none⟩ = some (.int .i64 e.c.d) := (cellAt' hh 4).trans rfl
  have c5 : ((w.alloc (.cells e.arr 55)).alloc zeroE).cell? ⟨w.heap.size, 5, none⟩ = some (.int .i64 e.c.p) := (cellAt' hh 5).trans rfl
  have c6 : ((w.alloc (.cells e.arr 55)).alloc zeroE).cell? ⟨w.heap.size, 6, none⟩ = some (.int .i64 e.c.q) := (cellAt' hh 6).trans rfl
  have c7 : ((w.alloc (.cells e.arr 55)).alloc zeroE).cell? ⟨w.heap.size, 7, none⟩ = some (.int .i64 e.pr) := (cellAt' hh 7).trans rfl
  have c8 : ((w.alloc (.cells e.arr 55)).alloc zeroE).cell? ⟨w.heap.size, 8, none⟩ = some (.int .i64 e.lo) := (cellAt' hh 8).trans rfl
  have c9 : ((w.alloc (.cells e.arr 55)).alloc zeroE).cell? ⟨w.heap.size, 9, none⟩ = some (.int .i64 e.hi) := (cellAt' hh 9).trans rfl
  have c10 : ((w.alloc (.cells e.arr 55)).alloc zeroE).cell? ⟨w.heap.size, 10, none⟩ = some (.int .i64 e.ft) := (cellAt' hh 10).trans rfl
  have c11 : ((w.alloc (.cells e.arr 55)).alloc zeroE).cell? ⟨w.heap.size, 11, none⟩ = some (.slice e.fp.a e.fp.n e.fp.c) := (cellAt' hh 11).trans rfl
  have c12 : ((w.alloc (.cells e.arr 55)).alloc zeroE).cell? ⟨w.heap.size, 12, none⟩ = some (.int .i64 e.ab) := (cellAt' hh 12).trans rfl
  have c13 : ((w.alloc (.cells e.arr 55)).alloc zeroE).cell? ⟨w.heap.size, 13, none⟩ = some (.int .i64 e.xt) := (cellAt' hh 13).trans rfl
  have c14 : ((w.alloc (.cells e.arr 55)).alloc zeroE).cell? ⟨w.heap.size, 14, none⟩ = some (.slice e.xp.a e.xp.n e.xp.c) := (cellAt' hh 14).trans rfl
  have c15 : ((w.alloc (.cells e.arr 55)).alloc zeroE).cell? ⟨w.heap.size, 15, none⟩ = some (.bool e.fr) := (cellAt' hh 15).trans rfl
  have c16 : ((w.alloc (.cells e.arr 55)).alloc zeroE).cell? ⟨w.heap.size, 16, none⟩ = some (.bool e.dn) := (cellAt' hh 16).trans rfl
  have c17 : ((w.alloc (.cells e.arr 55)).alloc zeroE).cell? ⟨w.heap.size, 17, none⟩ = some (.int .i64 e.vt) := (cellAt' hh 17).trans rfl
  have c18 : ((w.alloc (.cells e.arr 55)).alloc zeroE).cell? ⟨w.heap.size, 18, none⟩ = some (.slice e.vp.a e.vp.n e.vp.c) := (cellAt' hh 18).trans rfl
  have ht : ((w.alloc (.cells e.arr 55)).alloc zeroE).there (w.heap.size + 1) 0 19 := by
    have := thereNew (w.alloc (.cells e.arr 55)) (match zeroE with | .cells C _ _ => C | _ => #[]) 39 19 (by decide)
    rwa [World.size_alloc] at this
  have hb : Below w.heap.size w ((w.alloc (.cells e.arr 55)).alloc zeroE) := ((Below.refl _ w).alloc (Nat.le_refl _) _).alloc (by simp) _
  clear hh
  go_enter Try.func19, Try.ntmps19
  go_wp2_with (refine wpList_store_mid rfl 39 _ _ rfl _ _ e.arr rfl rfl ht (infoE' e) (Ev.one e) ?_)
  refine bodyPost_ret (ret_cell1 rfl rfl (setsE ht) Try.underlying39 rfl (infoE e)) rfl ⟨rfl, ?_⟩
  exact below_cells (by omega) _ _ _ hb
end Go.Proofs.Ytmggggijamligaa
namespace Go.Proofs.Ytmggggijamligaa
set_option linter.unusedVariables false
open Go.RowKit
open Go.Lib (hid)
end Go.Proofs.Ytmggggijamligaa
namespace Go.Proofs.Ytmggggijamligaa
set_option linter.unusedVariables false
open Go.RowKit
open Go.Lib (hid)
theorem rangeOf {W : World} {q : Nat} {e : Ev} {T : TypeId} (h : W.heap[q]? = some (.cells e.arr T (0, 0))) : W.rangeAt q 0 e.list := fun j v hv => by
  rw [Nat.zero_add, cellAt' h, ← Ev.toList] at *
  simpa using hv
theorem thereOf {W : World} {q n : Nat} {C : Array Value} {T : TypeId} (h : W.heap[q]? = some (.cells C T (0, 0))) (hn : n ≤ C.size) : W.there q 0 n := fun j hj => by
  rw [Nat.zero_add]
  refine ⟨?_, frozenAt h j⟩
  rw [cellAt' h, Array.getElem?_eq_getElem (by omega)]; rfl
end Go.Proofs.Ytmggggijamligaa
