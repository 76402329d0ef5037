import Derived.Test.YtplodoindppleaaGreatHRestZm
namespace Go.Proofs.YtplodoindppleaaGreat
set_option linter.unusedVariables false
open Go.RowKit
open Go.Lib (hid)
theorem right_good {m : Ms} (h : m.m.c.ok = true ∧ inB m.m.fr 9 = true ∧ inB m.m.tt 9 = true ∧ withinB m.m.bal 1048576 = true) : rightM m = (inB m.m.so 9 && ownB m) := by
 unfold rightM; rw [h.1, h.2.1, h.2.2.1, h.2.2.2]; simp
theorem right_bad {m : Ms} (h : ¬ (m.m.c.ok = true ∧ inB m.m.fr 9 = true ∧ inB m.m.tt 9 = true ∧ withinB m.m.bal 1048576 = true)) : rightM m = false := by
 rcases e : rightM m with _ | _
 · rfl
 · have := right_own e
   exact absurd ⟨this.2.2.2.2.1, this.2.1, this.2.2.1, this.2.2.2.1⟩ h
theorem right_A {m : Ms} (h : m.m.c.ok = true ∧ inB m.m.fr 9 = true ∧ inB m.m.tt 9 = true ∧ withinB m.m.bal 1048576 = true) (hs : m.m.so = 0 ∨ m.m.so = 1) : rightM m = (fullB m.m.vt m.v && (rstB m false true && decide (m.m.ab = 0))) := by
 rw [right_good h, show inB m.m.so 9 = true by rcases hs with h | h <;> rw [h] <;> rfl]
 unfold ownB rstB; rw [if_pos hs, noneAF_eq]
 cases fullB m.m.vt m.v <;> cases noneB m.m.xt m.a <;> cases noneB m.m.ft m.f <;> cases decide (m.m.s = 0) <;> cases decide (m.m.ab = 0) <;> rfl
theorem right_B {m : Ms} (h : m.m.c.ok = true ∧ inB m.m.fr 9 = true ∧ inB m.m.tt 9 = true ∧ withinB m.m.bal 1048576 = true) (hs : m.m.so = 2) : rightM m = (fullB m.m.vt m.v && (validB m.m.s && (rstB m true false && decide (m.m.ab = 0)))) := by
 rw [right_good h, show inB m.m.so 9 = true by rw [hs]; rfl]
 unfold ownB rstB; rw [if_neg (by omega), if_pos hs, noneAF_eq]
 cases fullB m.m.vt m.v <;> cases noneB m.m.xt m.a <;> cases noneB m.m.ft m.f <;> cases validB m.m.s <;> cases m.m.fl <;> cases decide (m.m.ab = 0) <;> rfl
theorem right_C {m : Ms} (h : m.m.c.ok = true ∧ inB m.m.fr 9 = true ∧ inB m.m.tt 9 = true ∧ withinB m.m.bal 1048576 = true) (hs : m.m.so = 5 ∨ m.m.so = 7) : rightM m = (fullB m.m.vt m.v && (rstB m false false && decide (m.m.ab = 0))) := by
 rw [right_good h, show inB m.m.so 9 = true by rcases hs with h | h <;> rw [h] <;> rfl]
 unfold ownB rstB; rw [if_neg (by omega), if_neg (by omega), if_neg (by omega), if_pos hs, noneAF_eq]
 cases fullB m.m.vt m.v <;> cases noneB m.m.xt m.a <;> cases noneB m.m.ft m.f <;> cases decide (m.m.s = 0) <;> cases m.m.fl <;> cases decide (m.m.ab = 0) <;> rfl
theorem right_D {m : Ms} (h : m.m.c.ok = true ∧ inB m.m.fr 9 = true ∧ inB m.m.tt 9 = true ∧ withinB m.m.bal 1048576 = true) (hs : m.m.so = 3 ∨ m.m.so = 6) : rightM m = (noneB m.m.vt m.v && (rstB m false false && decide (m.m.ab = 0))) := by
 rw [right_good h, show inB m.m.so 9 = true by rcases hs with h | h <;> rw [h] <;> rfl]
 unfold ownB rstB; rw [if_neg (by omega), if_neg (by omega), if_neg (by omega), if_neg (by omega), if_neg (by omega), noneVAF_eq]
 cases noneB m.m.vt m.v <;> cases noneB m.m.xt m.a <;> cases noneB m.m.ft m.f <;> cases decide (m.m.s = 0) <;> cases m.m.fl <;> cases decide (m.m.ab = 0) <;> rfl
theorem right_E {m : Ms} (h : m.m.c.ok = true ∧ inB m.m.fr 9 = true ∧ inB m.m.tt 9 = true ∧ withinB m.m.bal 1048576 = true) (hs : m.m.so = 8) : rightM m = (noneB m.m.vt m.v && (rstB m false false && withinB m.m.ab 1048576)) := by
 rw [right_good h, show inB m.m.so 9 = true by rw [hs]; rfl]
 unfold ownB rstB; rw [if_neg (by omega), if_neg (by omega), if_neg (by omega), if_neg (by omega), if_pos hs, noneVAF_eq]
 cases noneB m.m.vt m.v <;> cases noneB m.m.xt m.a <;> cases noneB m.m.ft m.f <;> cases decide (m.m.s = 0) <;> cases m.m.fl <;> cases withinB m.m.ab 1048576 <;> rfl
theorem right_F {m : Ms} (h : m.m.c.ok = true ∧ inB m.m.fr 9 = true ∧ inB m.m.tt 9 = true ∧ withinB m.m.bal 1048576 = true) (hs : m.m.so = 4) : rightM m = (decide (m.m.vt = 0) && (setB m.v && (validB m.m.s && ((fullB m.m.ft m.f || noneB m.m.ft m.f) && ((fullB m.m.xt m.a || noneB m.m.xt m.a) && withinB m.m.ab 1048576))))) := by
 rw [right_good h, show inB m.m.so 9 = true by rw [hs]; rfl]
 unfold ownB; rw [if_neg (by omega), if_neg (by omega), if_pos hs]
 cases decide (m.m.vt = 0) <;> cases setB m.v <;> cases validB m.m.s <;> cases fullB m.m.xt m.a <;> cases noneB m.m.xt m.a <;> cases fullB m.m.ft m.f <;> cases noneB m.m.ft m.f <;> cases withinB m.m.ab 1048576 <;> rfl
theorem right_G {m : Ms} (hs : ¬ m.m.so = 0 ∧ ¬ m.m.so = 1 ∧ ¬ m.m.so = 2 ∧ ¬ m.m.so = 5 ∧ ¬ m.m.so = 7 ∧ ¬ m.m.so = 3 ∧ ¬ m.m.so = 6 ∧ ¬ m.m.so = 8 ∧ ¬ m.m.so = 4) : rightM m = false := by
 rcases e : rightM m with _ | _
 · rfl
 · have := (right_own e).1
   unfold inB at this; simp at this; omega
end Go.Proofs.YtplodoindppleaaGreat
