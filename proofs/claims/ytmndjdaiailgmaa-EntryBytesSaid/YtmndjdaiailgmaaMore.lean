/- A slice of commands that the call itself made, one command longer. -/
import Derived.Test.YtmndjdaiailgmaaMem
import Derived.Deep.Light
namespace Go.Proofs.Ytmndjdaiailgmaa
open Go.RowKit
open Go.Lib (hid)

theorem Own.more {w : World} {B : Nat} {v : Value} {cs : List C7} {c : C7} (h : w.ownsRow B 25 7 v (cs.length + 1) (flat cs ++ c.cells)) : Own w B v (cs ++ [c]) := by
  unfold Own; rw [flat_append, flat_single, List.length_append]; exact h
theorem Own.grows {w W0 w1 : World} {B : Nat} {v v' : Value} {cs : List C7} {c : C7} (hB : Below B w W0) (hsz : B ≤ W0.heap.size) (hlt : ∀ k, v.ownBlock = some k → B ≤ k)
    (hown' : w1.ownsRow B 25 7 v' (cs.length + 1) (flat cs ++ c.cells)) (hg : W0.grownBy w1 v.ownBlock) : Own w1 B v' (cs ++ [c]) ∧ Below B w w1 :=
  ⟨Own.more hown', hB.grown hg hsz hlt⟩

theorem new_cell {W : World} {c : C7} {g : Nat} (hg : g = W.heap.size) : ∀ (j : Nat) u, c.cells[j]? = some u → (W.alloc (.cells #[.int .i64 c.i, .int .i64 c.k, .int .i64 c.s, .int .i64 c.t, .int .i64 c.d, .int .i64 c.p, .int .i64 c.q] 25)).cell? ((⟨g, 0, none⟩ : Addr).add j) = some u := by
  intro j u hj
  subst hg
  rw [show (⟨W.heap.size, 0, none⟩ : Addr).add j = ⟨W.heap.size, j, none⟩ from by unfold Addr.add; split <;> simp_all, World.cell?_alloc_new, List.getElem?_toArray]
  exact hj
theorem cells_one (c : C7) : ∀ u ∈ c.cells, u.oneCell' = true := by
  intro u hu; simp at hu; rcases hu with rfl | rfl | rfl | rfl | rfl | rfl | rfl <;> rfl

end Go.Proofs.Ytmndjdaiailgmaa
