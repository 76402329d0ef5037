/- Commands one behind the other, as states: what the loops over them keep. -/
import Derived.Test.YtmndjdaiailgmaaBox
import Derived.Test.YtmndjdaiailgmaaMore
namespace Go.Proofs.Ytmndjdaiailgmaa
set_option linter.unusedVariables false
open Go.RowKit
open Go.Lib (hid)

theorem cmdsS_err {s : St} (h : (numS s).2.2 ≠ 0) : cmdsS s = ([], (numS s).2) := by
  have h0 := numS_bad h
  unfold cmdsS
  dsimp only
  rw [h0, if_neg (by omega)]
  unfold cmdsGo
  rw [if_neg h]
theorem cmdsS_many {s : St} (h : 1024 < (numS s).1) : cmdsS s = ([], ([], 2)) := by
  unfold cmdsS
  dsimp only
  rw [if_pos h]
theorem cmdsS_fail {s st : St} {out : List C7} (h : (numS s).1 ≤ 1024) (hg : cmdsGo (numS s).1 [] (numS s).2 = (out, st)) (he : st.2 ≠ 0) : cmdsS s = ([], st) := by
  unfold cmdsS
  dsimp only
  rw [if_neg (by omega), hg]
  dsimp only
  rw [if_neg he]
theorem cmdsS_fin {s st : St} {out : List C7} (h : (numS s).1 ≤ 1024) (hg : cmdsGo (numS s).1 [] (numS s).2 = (out, st)) (he : st.2 = 0) : cmdsS s = (out, st) := by
  unfold cmdsS
  dsimp only
  rw [if_neg (by omega), hg]
  dsimp only
  rw [if_pos he]
theorem cmdsGo_stop {k : Nat} {out : List C7} {st : St} (h : st.2 ≠ 0) : cmdsGo k out st = (out, st) := by
  match k with
  | 0 => rfl
  | k + 1 => rw [cmdsGo, if_neg h]
theorem cmdsGo_next {m k : Nat} {out : List C7} {st : St} (h : k < m) (he : st.2 = 0) : cmdsGo (m - k) out st = cmdsGo (m - (k + 1)) (out ++ [(cmdS st).1]) (cmdS st).2 := by
  obtain ⟨j, hj⟩ : ∃ j, m - k = j + 1 := ⟨m - k - 1, by omega⟩
  rw [hj, cmdsGo, if_pos he, show m - (k + 1) = j by omega]

theorem Own.asSlice {w : World} {B : Nat} {v : Value} {cs : List C7} (h : Own w B v cs) : ∃ (g : Option Addr) (cap n : Nat), v = .slice g n cap ∧ n = cs.length := by
  rcases h.shape with ⟨e, e'⟩ | ⟨g, cap, e, _⟩
  · exact ⟨none, 0, 0, e, by rw [e']; rfl⟩
  · exact ⟨_, cap, _, e, rfl⟩
theorem Own.kept' {w w' : World} {B p : Nat} {v : Value} {cs : List C7} (h : Own w B v cs) (hg : w.grownBy w' (some p)) (hp : p < B) : Own w' B v cs :=
  World.ownsRow.kept h hg (.inr fun hh => by have := (h.lt _ hh).1; omega)
theorem own_more {w : World} {B : Nat} {v : Value} {cs : List C7} {c : C7} {n : Nat} (h : w.ownsRow B 25 7 v n (flat cs ++ c.cells)) (hn : n = cs.length + 1) : Own w B v (cs ++ [c]) := by
  subst hn; exact Own.more h
end Go.Proofs.Ytmndjdaiailgmaa
