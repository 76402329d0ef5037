/- copy, clear, append into a row of elements that take several cells: what stands in the row then. -/
import Derived.Test.YtdgllpfccdbdnaaBRow
import Derived.Laws.CopyOwn
import Derived.Laws.IdiomCopy
import Derived.Lib.AppendZerosOnto
import Derived.Laws.NewBlocks
namespace Go.Proofs.Ytdgllpfccdbdnaa
set_option linter.unusedVariables false
open Go.RowKit
open Go.Lib (hid)

theorem splice_mid {α : Type} {L : List α} {off m : Nat} {cs : List α} (h : off ≤ L.length) (hm : m = off + cs.length) : (splice L off cs).take m = L.take off ++ cs := by
  subst hm
  unfold splice
  rw [← List.append_assoc, List.take_append_of_le_length (by simp; omega)]
  exact List.take_of_length_le (by simp; omega)
theorem splice_low {α : Type} {L : List α} {off m : Nat} {cs : List α} (h : off ≤ L.length) (hm : m ≤ off) : (splice L off cs).take m = L.take m := by
  unfold splice
  rw [List.take_append_of_le_length (by simp; omega), List.take_take, Nat.min_eq_left hm]
theorem splice_len {α : Type} {L : List α} {off : Nat} {cs : List α} (h : off + cs.length ≤ L.length) : (splice L off cs).length = L.length := length_splice L off cs h

theorem setCells_row {w : World} {g : Nat} {cur : Array Value} {t : TypeId} (hg : w.heap[g]? = some (.cells cur t (0, 0))) (vs : List Value) (o : Nat) (h : o + vs.length ≤ cur.size) (h1 : ∀ v ∈ vs, v.oneCell' = true) :
    w.setCells g o vs = w.setRow g (splice cur.toList o vs).toArray := by
  have a := run_storeCells_at Try.prog g o t vs 0 cur w hg (by simpa using h) h1
  have b := run_storeCells_cells (P := Try.prog) g o vs 0 w (fun j hj => by rw [cellAt' hg]; simp; omega) (fun j hj => by simp [World.frozen?, hg]) h1
  rw [a] at b
  injection b with _ b
  simpa [splice] using b.symm

theorem run_copyK {P : Program} (w : World) (dT sT ty elem : TypeId) (g o dLen dCap : Nat) (a : Addr) (sLen sCap K : Nat) (cur : Array Value) (t : TypeId) (cs : List Value) (i : TypeInfo)
    (hu : P.underlying dT = some (.slice elem)) (hi : P.info? elem = some i) (hs : i.size = K)
    (hg : w.heap[g]? = some (.cells cur t (0, 0))) (hn : cs.length = Nat.min sLen dLen * K)
    (hsrc : ∀ (j : Nat) v, cs[j]? = some v → w.cell? (a.add j) = some v) (hfit : o + cs.length ≤ cur.size) (h1 : ∀ v ∈ cs, v.oneCell' = true) :
    (Builtin.copy_ #[dT, sT] ty #[.slice (some ⟨g, o, none⟩) dLen dCap, .slice (some a) sLen sCap]).run P w = .ok (goInt (Nat.min sLen dLen)) (w.setRow g (splice cur.toList o cs).toArray) := by
  have hl := run_loadCells_list (P := P) w a cs hsrc
  have hst := run_storeCells_at P g o t cs 0 cur w hg (by simpa using hfit) h1
  rw [hn] at hl
  simp [Builtin.copy_, run_underlying hu, Builtin.lenOf, Builtin.firstCells, sizeOf, typeInfo, hi, hs, hl, hst, splice]

theorem wp_copy_runB {P : Program} (w : World) {o : Oper} {a : Act} {K : Act → World → Prop} {Q : Exit → Act → World → Prop} (d s : Operand) (t t' : TypeId)
    (ho : o.op = .call { callee := .builtin .copy, args := #[d, s], argTypes := #[t, t'] }) (v u : Value) (hd : a.eval d = v) (hs : a.eval s = u) {v' : Value} {w' : World}
    (hr : (Builtin.copy_ #[t, t'] o.type #[v, u]).run P w = .ok v' w') (h : K (a.put o.dst v') w') : o.wp P a w K Q := by
  unfold Oper.wp execOp
  simp only [ho, resolve, invoke, builtin, Sem.run_bind, Sem.run_pure, Result.andThen_ok, List.map_toArray, List.map_cons, List.map_nil, hd, hs, hr]
  exact h
theorem wpList_copy_runB {P : Program} (w : World) {ops : Array Oper} {rest : List Oper} {o : Oper} {a : Act} {Q : Exit → Act → World → Prop} (hgd : o.guard = none) (d s : Operand) (t t' : TypeId)
    (ho : o.op = .call { callee := .builtin .copy, args := #[d, s], argTypes := #[t, t'] }) (v u : Value) (hd : a.eval d = v) (hs : a.eval s = u) {v' : Value} {w' : World}
    (hr : (Builtin.copy_ #[t, t'] o.type #[v, u]).run P w = .ok v' w') (h : wpList P ops Q rest (a.put o.dst v') w') : wpList P ops Q (o :: rest) a w :=
  wpList_plain hgd fun _ hK => wp_copy_runB w d s t t' ho v u hd hs hr (hK _ _ h)
theorem step_copy_runB {P : Program} {ops : Array Oper} {o : Oper} {a : Act} {w : World} {K : Act → World → Prop} {Q : Exit → Act → World → Prop} {E : Prop}
    (hg : o.guard = none) (d x : Operand) (dT sT : TypeId) (hop : o.op = Op.call { callee := Callee.builtin Builtin.copy, args := #[d, x], argTypes := #[dT, sT] })
    (v u : Value) (hd : a.eval d = v) (hx : a.eval x = u) {v' : Value} {w' : World} (hr : (Builtin.copy_ #[dT, sT] o.type #[v, u]).run P w = .ok v' w') (hK : K (a.put o.dst v') w') :
    if Region.wanted o (yielded ops a.tmps) = true then Oper.wp P o a w K Q else E := by
  have hw : Region.wanted o (yielded ops a.tmps) = true := by simp [Region.wanted, hg]
  rw [if_pos hw]
  unfold Oper.wp
  simp [execOp, hop, resolve, invoke, builtin, hd, hx, hr, Result.andThen]
  exact hK

abbrev zO4 : List Value := [.int .i64 0, .int .i64 0, .int .i64 0, .int .i64 0]
theorem run_clear1 (w : World) (ty : TypeId) (g o c : Nat) (cur : Array Value) (t : TypeId) (hg : w.heap[g]? = some (.cells cur t (0, 0))) (hfit : o + 4 ≤ cur.size) :
    (Builtin.clear_ #[48] ty #[.slice (some ⟨g, o, none⟩) 1 c]).run Try.prog w = .ok (.tuple #[]) (w.setRow g (splice cur.toList o zO4).toArray) := by
  have hst := run_storeCells_at Try.prog g o t zO4 0 cur w hg (by simpa using hfit) (by simp; decide)
  obtain ⟨i0, hi, hz0, hz1, hz2⟩ := info_parts Try.infoO
  have hzc : (Builtin.zeroCells (Value.agg #[.int .i64 0, .int .i64 0, .int .i64 0, .int .i64 0]).cells 1).toList = zO4 := by
    first | kernel_rfl | (simp [Builtin.zeroCells, Value.cells, Array.range]; done) | (simp [Builtin.zeroCells, Value.cells]; rfl)
  simp [Builtin.clear_, run_underlying Try.underlying48, zeroValue, typeInfo, hi, hz0, hzc, hst, splice]

/-- A row whose block is told, with its cells. -/
theorem OwnO.block {w : World} {B : Nat} {v : Value} {l : List Od} (h : OwnO w B v l) (h0 : l ≠ []) : ∃ g cap cur, v = .slice (some ⟨g, 0, none⟩) l.length cap ∧ B ≤ g ∧ w.heap[g]? = some (.cells cur 52 (0, 0)) ∧ l.length ≤ cap ∧ cap ≤ maxLen ∧ cur.size = cap * 4 ∧ cur.toList.take (l.length * 4) = flatG Od.cells l := by
  rcases h.2 with ⟨rfl, hz⟩ | ⟨g, cap, cur, rfl, hb, hg, hn, hm, hs, ht⟩
  · exact absurd (List.length_eq_zero_iff.1 hz) h0
  · exact ⟨g, cap, cur, rfl, hb, hg, hn, hm, hs, ht⟩
theorem OwnO.mk {w : World} {B g n cap : Nat} {cur : Array Value} {l : List Od} (hb : B ≤ g) (hg : w.heap[g]? = some (.cells cur 52 (0, 0))) (hn : n = l.length) (hc : n ≤ cap) (hm : cap ≤ maxLen) (hs : cur.size = cap * 4) (ht : cur.toList.take (n * 4) = flatG Od.cells l) :
    OwnO w B (.slice (some ⟨g, 0, none⟩) n cap) l := by
  subst hn
  exact ⟨by rw [flatG_len kO], .inr ⟨g, cap, cur, rfl, hb, hg, hc, hm, hs, ht⟩⟩
theorem flat_take (l : List Od) (k : Nat) : (flatG Od.cells l).take (k * 4) = flatG Od.cells (l.take k) := by
  induction l generalizing k with
  | nil => simp [flatG]
  | cons x xs ih =>
    cases k with
    | zero => simp [flatG]
    | succ k => 
      rw [List.take_succ_cons, flatG_cons, flatG_cons, ← ih k, show (k + 1) * 4 = 4 + k * 4 by omega]
      rw [List.take_append, kO, List.take_of_length_le (by rw [kO]; omega), show 4 + k * 4 - 4 = k * 4 by omega]
theorem flat_drop (l : List Od) (k : Nat) : (flatG Od.cells l).drop (k * 4) = flatG Od.cells (l.drop k) := by
  induction l generalizing k with
  | nil => simp [flatG]
  | cons x xs ih =>
    cases k with
    | zero => simp [flatG]
    | succ k => 
      rw [List.drop_succ_cons, flatG_cons, ← ih k, show (k + 1) * 4 = 4 + k * 4 by omega]
      rw [List.drop_append, kO, List.drop_eq_nil_of_le (by rw [kO]; omega), show 4 + k * 4 - 4 = k * 4 by omega, List.nil_append]
end Go.Proofs.Ytdgllpfccdbdnaa
