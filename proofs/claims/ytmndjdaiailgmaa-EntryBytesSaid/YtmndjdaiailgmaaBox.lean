/- Cells that a call makes for itself, beside a reader. -/
import Derived.Test.YtmndjdaiailgmaaRdNum
namespace Go.Proofs.Ytmndjdaiailgmaa
set_option linter.unusedVariables false
open Go.RowKit
open Go.Lib (hid)

theorem Rd.keptN {T : TypeId} {F : Nat → Prop} {w w' : World} {p : Nat} {s : St} {row : Option Nat} (h : Rd T F w p s) (hg : w.grownBy w' row) (hr : ∀ k, row = some k → k ≠ p ∧ ¬ F k) : Rd T F w' p s := by
  have hl := h.lt
  obtain ⟨v, hp, hs, hF, hf⟩ := h
  refine ⟨v, ?_, hs.same hg.size fun k hk hlt => hg.block k hlt fun e => (hr k e.symm).2 (hF _ hk), hF, hf⟩
  rw [hg.block p hl (fun e => (hr p e.symm).1 rfl)]; exact hp
theorem Rd.alloc {T : TypeId} {F : Nat → Prop} {w : World} {p : Nat} {s : St} (h : Rd T F w p s) (o : Obj) : Rd T F (w.alloc o) p s := h.on ((Below.refl _ w).alloc (Nat.le_refl _) o)
theorem Rd.drewN {T : TypeId} {F : Nat → Prop} {w : World} {p : Nat} {s : St} (h : Rd T F w p s) (n : Nat) : Rd T F (w.drewN n) p s := h.on (Below.drewN' (Below.refl _ w) n)
theorem grownThen {a b c : World} {row row' : Option Nat} (h : a.grownBy b row) (k : b.grownBy c row') (hr : ∀ j, row' = some j → a.heap.size ≤ j) : a.grownBy c row :=
  ⟨k.os.trans h.os, k.tape.trans h.tape, k.output.trans h.output, Nat.le_trans h.size k.size, fun i hi hn => (k.block i (Nat.lt_of_lt_of_le hi h.size) (fun e => by have := hr i e.symm; omega)).trans (h.block i hi hn)⟩
theorem grownUnder {a b c : World} {row : Option Nat} (h : a.grownBy b row) (k : Below a.heap.size b c) : a.grownBy c row :=
  ⟨k.os.trans h.os, k.tape.trans h.tape, k.output.trans h.output, Nat.le_trans h.size k.size, fun i hi hn => (k.block i hi).trans (h.block i hi hn)⟩
theorem grownSet7 (w : World) (q : Nat) (a b c d e f g : Value) : w.grownBy (((((((w.setCell ⟨q, 0, none⟩ a).setCell ⟨q, 1, none⟩ b).setCell ⟨q, 2, none⟩ c).setCell ⟨q, 3, none⟩ d).setCell ⟨q, 4, none⟩ e).setCell ⟨q, 5, none⟩ f).setCell ⟨q, 6, none⟩ g) (some q) :=
  grownTrans (grownTrans (grownTrans (grownTrans (grownTrans (grownTrans (grownSet _ _ _) (grownSet _ _ _)) (grownSet _ _ _)) (grownSet _ _ _)) (grownSet _ _ _)) (grownSet _ _ _)) (grownSet _ _ _)
theorem setAt {w : World} {q j : Nat} {vs : Array Value} {x : Value} {t : TypeId} (h : w.heap[q]? = some (.cells vs t (0, 0))) : (w.setCell ⟨q, j, none⟩ x).heap[q]? = some (.cells (vs.setIfInBounds j x) t (0, 0)) := by
  show (w.heap.modify q _)[q]? = _
  obtain ⟨hlt, hk⟩ := Array.getElem?_eq_some_iff.1 h
  rw [Array.getElem?_eq_getElem (by rw [Array.size_modify]; exact hlt), Array.getElem_modify_self, hk]
  rfl
theorem cellAt' {w : World} {q : Nat} {vs : Array Value} {t : TypeId} (h : w.heap[q]? = some (.cells vs t (0, 0))) (j : Nat) : w.cell? ⟨q, j, none⟩ = vs[j]? := cell_of_row w q j vs t (0, 0) h
theorem frozenAt {w : World} {q : Nat} {vs : Array Value} {t : TypeId} (h : w.heap[q]? = some (.cells vs t (0, 0))) (j : Nat) : w.frozen? ⟨q, j, none⟩ = false := by simp [World.frozen?, h]
theorem heapOf {w w' : World} {q r : Nat} {o : Obj} (h : w.heap[q]? = some o) (hg : w.grownBy w' (some r)) (hne : q ≠ r) : w'.heap[q]? = some o := by
  rw [hg.block q (Array.getElem?_eq_some_iff.1 h).1 (fun e => hne (by cases e; rfl))]; exact h

theorem newOne {W : World} {x : Value} {T : TypeId} {g : Nat} (hg : g = W.heap.size) : ∀ (j : Nat) u, [x][j]? = some u → (W.alloc (.cells #[x] T)).cell? ((⟨g, 0, none⟩ : Addr).add j) = some u := by
  intro j u hj
  subst hg
  rw [show (⟨W.heap.size, 0, none⟩ : Addr).add j = ⟨W.heap.size, j, none⟩ from by unfold Addr.add; split <;> simp_all, World.cell?_alloc_new, List.getElem?_toArray]
  exact hj
/-- Seven numbers, one by one. -/
def rawSt (s : St) : Nat → St
  | 0 => s
  | k + 1 => (numS (rawSt s k)).2
def rawL (s : St) (k : Nat) : List Int := (List.range k).map fun j => ((numS (rawSt s j)).1 : Int)
theorem rawL_len (s : St) (k : Nat) : (rawL s k).length = k := by simp [rawL]
theorem rawL_next (s : St) (k : Nat) : rawL s (k + 1) = rawL s k ++ [((numS (rawSt s k)).1 : Int)] := by unfold rawL; rw [List.range_succ, List.map_append]; rfl
theorem raw_cmd (s : St) : rawL s 7 = (cmdRaw s).1.nums ∧ rawSt s 7 = (cmdRaw s).2 := ⟨rfl, rfl⟩
abbrev zero7 : Obj := .cells #[.int .i64 0, .int .i64 0, .int .i64 0, .int .i64 0, .int .i64 0, .int .i64 0, .int .i64 0] 25
theorem ownN_more {w : World} {B : Nat} {v : Value} {l : List Int} {x : Int} {n : Nat} (h : w.ownsRow B 3 1 v n (ints l ++ [.int .i64 x])) (hn : n = l.length + 1) : OwnN w B v (l ++ [x]) := by
  unfold OwnN
  rw [ints_append, List.length_append]
  subst hn
  exact h
theorem OwnN.cell {w : World} {B : Nat} {v : Value} {l : List Int} (h : OwnN w B v l) (h0 : 0 < l.length) : ∃ g cap, v = .slice (some ⟨g, 0, none⟩) l.length cap ∧ B ≤ g ∧ g < w.heap.size ∧ ∀ (j : Nat) x, l[j]? = some x → w.cell? ⟨g, j, none⟩ = some (.int .i64 x) := by
  have hl := h.lt
  rcases h.2 with ⟨rfl, e0⟩ | ⟨g, cap, cur, rfl, hb, hg, hn, hm, hs, ht⟩
  · omega
  · refine ⟨g, cap, rfl, hb, (hl g rfl).2, fun j x hx => ?_⟩
    have hj := (List.getElem?_eq_some_iff.1 hx).1
    rw [h.cellAt j (by omega)]
    simp [ints, hx]

theorem cmdS_err {s : St} (h : (cmdRaw s).2.2 ≠ 0) : cmdS s = (default, (cmdRaw s).2) := by unfold cmdS; dsimp only; rw [if_neg h]
theorem cmdS_yes {s : St} (h : (cmdRaw s).2.2 = 0) (h2 : (cmdRaw s).1.ok = true) : cmdS s = cmdRaw s := by unfold cmdS; dsimp only; rw [if_pos h, if_pos h2]
theorem cmdS_no {s : St} (h : (cmdRaw s).2.2 = 0) (h2 : (cmdRaw s).1.ok = false) : cmdS s = (default, ([], 2)) := by unfold cmdS; dsimp only; rw [if_pos h, if_neg (by rw [h2]; simp)]
end Go.Proofs.Ytmndjdaiailgmaa
