/- A value behind its number and its commands, as states. -/
import Derived.Test.YtmndjdaiailgmaaCmds
namespace Go.Proofs.Ytmndjdaiailgmaa
set_option linter.unusedVariables false
open Go.RowKit
open Go.Lib (hid)

theorem valueS_err {s : St} (h : (cmdsS (numS s).2).2.2 ≠ 0) : valueS s = ((0, []), (cmdsS (numS s).2).2) := by unfold valueS; dsimp only; rw [if_neg h]
theorem valueS_yes {s : St} (h : (cmdsS (numS s).2).2.2 = 0) (h2 : setB (cmdsS (numS s).2).1 = true) : valueS s = (((numS s).1, (cmdsS (numS s).2).1), (cmdsS (numS s).2).2) := by unfold valueS; dsimp only; rw [if_pos h, if_pos h2]
theorem valueS_no {s : St} (h : (cmdsS (numS s).2).2.2 = 0) (h2 : setB (cmdsS (numS s).2).1 = false) : valueS s = ((0, []), ([], 2)) := by unfold valueS; dsimp only; rw [if_pos h, if_neg (by rw [h2]; simp)]
theorem cmdsS_short {s : St} : (cmdsS s).1.length ≤ 1024 := by
  by_cases h : (cmdsS s).2.2 = 0
  · exact (cmdsS_ok h).2.2.1
  · rw [cmdsS_bad h]; simp
abbrev zeroV : Obj := .cells #[.int .i64 0, .slice none 0 0] 28
theorem grownSet2q (w : World) (q : Nat) (x y : Value) : w.grownBy ((w.setCell ⟨q, 0, none⟩ x).setCell ⟨q, 1, none⟩ y) (some q) := grownSet2 w q x y
theorem heapB {w w' : World} {q B : Nat} {o : Obj} (h : w.heap[q]? = some o) (hB : Below B w w') (hq : q < B) : w'.heap[q]? = some o := by rw [hB.block q hq]; exact h
theorem own_sl_below {w w' : World} {B : Nat} {v : Value} {cs : List C7} (h : Own w B v cs) (hb : Below w.heap.size w w') : Own w' B v cs := own_below h hb fun k hk => (h.lt k hk).2
end Go.Proofs.Ytmndjdaiailgmaa
