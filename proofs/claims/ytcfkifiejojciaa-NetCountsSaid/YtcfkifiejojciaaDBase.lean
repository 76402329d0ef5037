/- A disk of the program's, and one of the document's, in memory. -/
import Derived.Test.YtcfkifiejojciaaFBase
import Derived.Laws.CopyOwn
import Derived.Deep.QuietTactic
import Derived.BigQuiet
import Derived.BigRegion
import Derived.RegionTactic
namespace Go.Proofs.Ytcfkifiejojciaa
set_option linter.unusedVariables false
open Go.RowKit
open Go.Lib (hid)

theorem SlB.len {w : World} {p : Sv} {l : List UInt8} (h : SlB w p.v l) : p.n = l.length := by
  obtain ⟨_, _, cap, a, hv', _⟩ := id h
  injection hv'
theorem SlB.any {w : World} {v : Value} {l : List UInt8} (h : SlB w v l) : ∃ a cap, v = .slice a l.length cap ∧ l.length ≤ cap ∧ (a = none → cap = 0) := by
  obtain ⟨b, o, cap, a, rfl, hn, hcap, ha, hc, hb⟩ := h
  exact ⟨a, cap, rfl, hcap, hn⟩
theorem wpList_append_slb {w : World} {ops : Array Oper} {rest : List Oper} {o : Oper} {a : Act} {Q : Exit → Act → World → Prop} (hgd : o.guard = none) (s x : Operand) (ho : o.op = .call { callee := .builtin .append, args := #[s, x], argTypes := #[40, 40] })
    (base : Nat) (v : Value) (l1 : List UInt8) (hs : a.eval s = v) (hown : OwnB w base v l1) (v2 : Value) (l2 : List UInt8) (hx : a.eval x = v2) (h2 : SlB w v2 l2) (hlen : l1.length + l2.length ≤ 1000000) (hbase : base ≤ w.heap.size)
    (h : ∀ v' w', OwnB w' base v' (l1 ++ l2) → w.grownBy w' v.ownBlock → wpList Try.prog ops Q rest (a.put o.dst v') w') : wpList Try.prog ops Q (o :: rest) a w := by
  obtain ⟨i0, hi, hz0, hz1, hz2⟩ := info_parts Try.infoB
  rcases h2.src with ⟨rfl, rfl⟩ | ⟨ad, cap, rfl, hc, _⟩
  · refine wpList_append_own_none hgd s x 40 ho base 5 i0 1 Try.underlying40 hi v l1.length (octs l1) hs hown hx ?_
    exact h v w (by rw [List.append_nil]; exact hown) (grownRefl _ _)
  · refine wpList_append_own _ hgd s x 40 ho base 5 i0 _ 1 1 Try.underlying40 hi hz0 hz1 hz2 rfl (by decide) v l1.length (octs l1) hs hown ad l2.length cap (octs l2) hx (by rw [octs_len, Nat.mul_one]) hc (octs_one _) (by unfold maxLen; omega) (by omega) hbase ?_
    intro v' w' ho' hg _
    exact h v' w' (by unfold OwnB; rw [octs_append, List.length_append]; exact ho') hg

abbrev ptr (p : Nat) : Value := .pointer (some ⟨p, 0, none⟩)
/-- Block p holds a disk: its room, its bytes, how many of them are synced. -/
abbrev Tri (T : TypeId) (w : World) (p : Nat) (room : Int) (v : Value) (s : Int) : Prop := w.heap[p]? = some (.cells #[.int .i64 room, v, .int .i64 s] T (0, 0))
theorem frozenAt {w : World} {q : Nat} {vs : Array Value} {t : TypeId} (h : w.heap[q]? = some (.cells vs t (0, 0))) (j : Nat) : w.frozen? ⟨q, j, none⟩ = false := by simp [World.frozen?, h]
theorem setAt {w : World} {q j : Nat} {vs : Array Value} {x : Value} {t : TypeId} (h : w.heap[q]? = some (.cells vs t (0, 0))) : (w.setCell ⟨q, j, none⟩ x).heap[q]? = some (.cells (vs.setIfInBounds j x) t (0, 0)) := by
  show (w.heap.modify q _)[q]? = _
  obtain ⟨hlt, hk⟩ := Array.getElem?_eq_some_iff.1 h
  rw [Array.getElem?_eq_getElem (by rw [Array.size_modify]; exact hlt), Array.getElem_modify_self, hk]
  rfl
theorem Tri.cells {T : TypeId} {w : World} {p : Nat} {room s : Int} {v : Value} (h : Tri T w p room v s) : p < w.heap.size ∧ w.cell? ⟨p, 0, none⟩ = some (.int .i64 room) ∧ w.cell? ⟨p, 1, none⟩ = some v ∧ w.cell? ⟨p, 2, none⟩ = some (.int .i64 s) ∧ w.frozen? ⟨p, 0, none⟩ = false ∧ w.frozen? ⟨p, 1, none⟩ = false ∧ w.frozen? ⟨p, 2, none⟩ = false :=
  ⟨(Array.getElem?_eq_some_iff.1 h).1, cellAt' h 0, cellAt' h 1, cellAt' h 2, frozenAt h 0, frozenAt h 1, frozenAt h 2⟩
theorem Tri.set1 {T : TypeId} {w : World} {p : Nat} {room s : Int} {v u : Value} (h : Tri T w p room v s) : Tri T (w.setCell ⟨p, 1, none⟩ u) p room u s := setAt h
theorem Tri.set2 {T : TypeId} {w : World} {p : Nat} {room s u : Int} {v : Value} (h : Tri T w p room v s) : Tri T (w.setCell ⟨p, 2, none⟩ (.int .i64 u)) p room v u := setAt h
theorem obOn {B : Nat} {w w' : World} {p : Nat} {o : Obj} (h : w.heap[p]? = some o) (hb : Below B w w') (hp : p < B) : w'.heap[p]? = some o := (hb.block p hp).trans h
theorem obKept {w w' : World} {q : Nat} {o : Obj} {row : Option Nat} (h : w.heap[q]? = some o) (hg : w.grownBy w' row) (hne : row ≠ some q) : w'.heap[q]? = some o := by
  rw [hg.block q (Array.getElem?_eq_some_iff.1 h).1 (fun e => hne e.symm)]; exact h
/-- A disk's block is no block of bytes. -/
theorem Tri.apart {T : TypeId} {w : World} {p B : Nat} {room s : Int} {v u : Value} {l : List UInt8} (h : Tri T w p room v s) (hT : T ≠ 5) (ho : OwnB w B u l) : u.ownBlock ≠ some p := by
  rcases ho.2 with ⟨rfl, _⟩ | ⟨g, cap, cur, rfl, _, hg, _⟩
  · simp [Value.ownBlock]
  · intro e
    simp [Value.ownBlock] at e
    subst e
    rw [h] at hg
    injection hg with h1
    injection h1 with h2 h3
    exact hT h3
/-- The first bytes of one's own. -/
theorem OwnB.head {w : World} {B : Nat} {g : Option Addr} {n cap k : Nat} {l : List UInt8} (h : OwnB w B (.slice g n cap) l) (hk : k ≤ l.length) : OwnB w B (.slice g k cap) (l.take k) := by
  have hlt : (l.take k).length = k := by rw [List.length_take]; omega
  have ho : octs (l.take k) = (octs l).take k := by simp [octs, List.map_take]
  rcases h.2 with ⟨e, h0⟩ | ⟨g', cap', cur, e, hb, hg, hn, hm, hs, ht⟩
  · injection e with e1 e2 e3
    subst e1 e3
    obtain rfl := List.length_eq_zero_iff.1 h0
    simp at hk
    subst hk
    exact OwnB.nil _ _
  · injection e with e1 e2 e3
    subst e1 e2 e3
    unfold OwnB
    rw [hlt, ho]
    refine ⟨by rw [List.length_take, octs_len]; omega, .inr ⟨g', cap, cur, rfl, hb, hg, by omega, hm, hs, ?_⟩⟩
    rw [← ht, List.take_take, Nat.mul_one, Nat.mul_one, Nat.min_eq_left hk]
theorem SlB.headA {w : World} {g : Option Addr} {n cap k : Nat} {l : List UInt8} (h : SlB w (.slice g n cap) l) (hk : k ≤ l.length) : SlB w (.slice g k cap) (l.take k) := by
  have hlt : (l.take k).length = k := by rw [List.length_take]; omega
  obtain ⟨b, o, cap', a, e, hn, hcap, ha, hc, hb⟩ := h
  injection e with e1 e2 e3
  subst e1 e3
  refine ⟨b, o, cap, g, by rw [hlt], hn, by omega, fun h0 => ha (by omega), fun j x hx => ?_, fun h0 => hb (by omega)⟩
  have hj := (List.getElem?_eq_some_iff.1 hx).1
  rw [List.getElem?_take, if_pos (by omega)] at hx
  exact hc j x hx
theorem SlB.kept {w w' : World} {v : Value} {l : List UInt8} {row : Option Nat} (h : SlB w v l) (hg : w.grownBy w' row) (hne : ∀ k, v.ownBlock = some k → row ≠ some k) : SlB w' v l :=
  h.same hg.size fun k hk hlt => hg.block k hlt fun e => hne k hk e.symm
theorem row_of {w : World} {B g n cap : Nat} {T : TypeId} {xs : List Value} (h : w.ownsRow B T 1 (.slice (some ⟨g, 0, none⟩) n cap) n xs) : ∃ cur : List Value, w.heap[g]? = some (.cells cur.toArray T (0, 0)) ∧ cur.length = cap ∧ B ≤ g ∧ cap ≤ maxLen := by
  rcases h.2 with ⟨e, h0⟩ | ⟨g', cap', cur, e, hb, hg, hn, hm, hs, ht⟩
  · cases e
  · injection e with e1 e2 e3
    injection e1 with e4
    injection e4 with e5
    subst e5 e3
    exact ⟨cur.toList, by simpa using hg, by simpa using hs, hb, hm⟩
theorem own_row {w : World} {B g n : Nat} {l : List UInt8} (h : w.heap[g]? = some (.cells (octs l).toArray 5 (0, 0))) (hB : B ≤ g) (hn : l.length = n) (hm : n ≤ maxLen) : OwnB w B (.slice (some ⟨g, 0, none⟩) n n) l := by
  subst hn
  exact ⟨by rw [octs_len, Nat.mul_one], .inr ⟨g, _, _, rfl, hB, h, Nat.le_refl _, hm, by simp [octs_len], by simp [octs_len, List.take_of_length_le]⟩⟩
theorem splice_all {cur cs : List Value} (h : cur.length = cs.length) : splice cur 0 cs = cs := by
  unfold splice
  rw [Nat.zero_add, ← h, List.drop_length, List.take_zero, List.nil_append, List.append_nil]
theorem belowNone {w w' : World} (hg : w.grownBy w' none) : Below w.heap.size w w' := ⟨hg.os, hg.tape, hg.output, hg.size, fun k hk => hg.block k hk (by simp)⟩
theorem grownOff {w W : World} {row : Option Nat} (h : w.drew.grownBy W row) : w.grownBy W row := ⟨h.os, h.tape, h.output, h.size, h.block⟩
theorem belowDrewN {B : Nat} {w W : World} (h : Below B w W) (n : Nat) : Below B w (W.drewN n) := ⟨h.1, h.2, h.3, h.4, h.5⟩
end Go.Proofs.Ytcfkifiejojciaa
