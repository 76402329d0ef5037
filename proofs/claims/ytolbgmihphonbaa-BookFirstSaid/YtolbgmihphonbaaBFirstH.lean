/- What stands behind a place, for the law BookFirst. -/
import Derived.Test.YtolbgmihphonbaaBOpen
namespace Go.Proofs.Ytolbgmihphonbaa
set_option linter.unusedVariables false
open Go.RowKit
open Go.Lib (hid)

/-- Each fill is of the first ones, in order, at their prices, whole, but the last one. -/
theorem fill_first {s p : Int} : ∀ (l : List Od) (left : Int), 0 ≤ left → (∀ x ∈ l, 1 ≤ x.n) → ∀ (k : Nat) f, (fillG s p left l).1[k]? = some f → ∃ x, l[k]? = some x ∧ f.i = x.i ∧ f.p = x.p ∧ meetsB s p x.p = true ∧ 1 ≤ f.q ∧ f.q ≤ x.n ∧ (f.q = x.n ∨ (k + 1 = (fillG s p left l).1.length ∧ (fillG s p left l).2 = 0))
  | [], left, _, _, k, f, h => by simp [fillG] at h
  | x :: xs, left, h0, hx, k, f, h => by
    have h1 := hx x (by simp)
    unfold fillG at h ⊢
    split at h
    · simp at h
    · rename_i hc
      rw [if_neg hc]
      have hl : left ≠ 0 := fun e => hc (.inl e)
      have hm : meetsB s p x.p = true := by
        rcases hh : meetsB s p x.p with _ | _
        · exact absurd (.inr hh) hc
        · rfl
      cases k with
      | zero =>
        simp at h
        subst h
        refine ⟨x, rfl, rfl, rfl, hm, by simp only; omega, by simp only; omega, ?_⟩
        rcases Int.lt_or_le left x.n with h3 | h3
        · refine .inr ?_
          rw [show left - min left x.n = 0 by omega, fillG_zero]
          exact ⟨rfl, rfl⟩
        · exact .inl (by simp only; omega)
      | succ k =>
        simp at h
        obtain ⟨y, hy, r1, r2, r3, r4, r5, r6⟩ := fill_first xs (left - min left x.n) (by omega) (fun y hy => hx y (by simp [hy])) k f h
        refine ⟨y, by simpa using hy, r1, r2, r3, r4, r5, ?_⟩
        rcases r6 with r6 | ⟨r6, r7⟩
        · exact .inl r6
        · exact .inr ⟨by simp only [List.length_cons]; omega, r7⟩
theorem OwnO.over {w0 w w' : World} {B C p : Nat} {va vb v : Value} {bs1 ss1 bs0 ss0 l : List Od} (h : OwnO w C v l) (hK : BkA w0 B p va vb bs0 ss0) (hC : w0.heap.size ≤ C) (hT : BkTo w w' B p va vb bs1 ss1) : OwnO w' C v l :=
  own_kept h fun k hk => hT.box hK (Nat.le_trans hC (h.lt k hk).1) (h.lt k hk).2
/-- What stands behind a place that had no error. -/
theorem place_first {bs ss oth : List Od} {i s p q : Int} (hF : FineB bs ss) {fs : List Fl} {left : Int} {bs' ss' : List Od} (hs : (s = 0 ∧ oth = ss) ∨ (s = 1 ∧ oth = bs)) (h : PlaceR bs ss ⟨i, s, p, q⟩ 0 fs left bs' ss') :
    (1 ≤ q ∧ q ≤ 1048576) ∧ sumF fs + left = q ∧ 0 ≤ left ∧ fs.length ≤ 8 ∧ (∀ k, 0 ≤ sumF (fs.take k) ∧ sumF (fs.take k) ≤ 8388608) ∧ (0 ≤ sumF fs ∧ sumF fs ≤ 1048576) ∧ fs.length ≤ oth.length ∧ oth.length ≤ 8 ∧
    (∀ (k : Nat) f, fs[k]? = some f → ∃ x, oth[k]? = some x ∧ f.i = x.i ∧ f.p = x.p ∧ meetsB s p x.p = true ∧ 1 ≤ f.q ∧ f.q ≤ x.n ∧ x.n ≤ 1048576 ∧ (f.q = x.n ∨ (k + 1 = fs.length ∧ left = 0))) ∧
    (0 < left → ∀ x, oth[fs.length]? = some x → meetsB s p x.p = false) := by
  obtain ⟨_, h | ⟨_, h2, h3, h4, h5, h6, h7, h8⟩⟩ := h
  · exact absurd rfl h.1
  have hm := may_iff.1 h7
  simp only at hm h2 h3 h8
  have hp := fills_pos (o := ⟨i, s, p, q⟩) hF (show (0 : Int) ≤ q by omega) h8
  have hoth : ∀ x ∈ oth, 1 ≤ x.n ∧ x.n ≤ 1048576 := by
    rcases hs with ⟨_, rfl⟩ | ⟨_, rfl⟩
    · intro x hx; have := hF.fs x hx; unfold okO at this; omega
    · intro x hx; have := hF.fb x hx; unfold okO at this; omega
  have hfr : (fs, left) = fillG s p q oth := by
    rcases hs with ⟨rfl, rfl⟩ | ⟨rfl, rfl⟩
    · rcases h8 with ⟨_, h8⟩ | ⟨h9, _⟩
      · exact h8
      · cases h9
    · rcases h8 with ⟨h9, _⟩ | ⟨_, h8⟩
      · cases h9
      · exact h8
  have hol : oth.length ≤ 8 := by have := hF.len; rcases hs with ⟨_, rfl⟩ | ⟨_, rfl⟩ <;> omega
  have hff := fill_first (s := s) (p := p) oth q (by omega) fun x hx => (hoth x hx).1
  have hfl := fillG_left (s := s) (p := p) oth q (by omega) fun x hx => (hoth x hx).1
  have hfe := fill_rest (s := s) (p := p) oth q (by omega) fun x hx => (hoth x hx).1
  rw [← hfr] at hff hfl hfe
  refine ⟨by omega, h3, h4, h6, fun k => ?_, by omega, hfl.2.2.1, hol, fun k f hk => ?_, fun hl x hx => (hfe hl).2 x hx⟩
  · have := take_sumF hp k; omega
  · obtain ⟨x, e1, e2, e3, e4, e5, e6, e7⟩ := hff k f hk
    exact ⟨x, e1, e2, e3, e4, e5, e6, (hoth x (List.mem_of_getElem? e1)).2, e7⟩
theorem bel_regrown {w W : World} (h : Below w.heap.size w W) (d : Nat) (os : Array Obj) : Below w.heap.size w (Go.Sort.grow (redrawn W d) os) := h.trans ((below_regrown W d os).mono h.size)
end Go.Proofs.Ytolbgmihphonbaa
