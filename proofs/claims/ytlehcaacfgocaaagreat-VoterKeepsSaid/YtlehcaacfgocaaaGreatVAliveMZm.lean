import Derived.Test.YtlehcaacfgocaaaGreatG42
/- The live question: what its three messages do. -/
namespace Go.Proofs.YtlehcaacfgocaaaGreat
set_option linter.unusedVariables false
open Go.RowKit
open Go.Lib (hid)

abbrev cA1 : C7 := ⟨16, 1, 0, 17, 0, 0, 0⟩
abbrev cB1 : C7 := ⟨17, 1, 0, 16, 0, 0, 0⟩
abbrev mA : Ms := ⟨{ zM with c := cA1, vt := 48 }, [], [], []⟩
abbrev mB : Ms := ⟨{ zM with fr := 1, c := cB1, vt := 33 }, [], [], []⟩
abbrev mC (p : Sv) : Ms := ⟨{ zM with so := 7, c := cA1, vt := 48, vp := p }, [cB1], [], []⟩
theorem learn_zero {xs : List En} {cs : List C7} (h1 : cs.all C7.ok = true) (h2 : FineL xs cs) : learnE xs cs = 0 := by
  unfold learnE
  rw [if_pos h1, if_pos h2]
theorem handle_is {nd : Int} {s : Sd} {ws : List Ms} {m : Ms} (h : TakenP s m) : handleF nd s ws m = overF (answerT nd (readyS s m) ws m (lkE (readyS s m).xs m.m.c.i)) := by unfold handleF; rw [if_pos h]
abbrev st0 : Sd := ⟨[], 0, false⟩
def re1 : Sd × List Ms × List An := overF (answerT 2 (readyS st0 mA) [] mA (lkE (readyS st0 mA).xs 16))
def re2 : Sd × List Ms × List An := overF (answerT 2 (readyS re1.1 mB) re1.2.1 mB (lkE (readyS re1.1 mB).xs 17))
def re3 (p : Sv) : Sd × List Ms × List An := overF (answerT 2 (readyS re2.1 (mC p)) re2.2.1 (mC p) (lkE (readyS re2.1 (mC p)).xs 16))
set_option maxRecDepth 100000 in
theorem re1_is : re1.2.1 = [] ∧ re1.2.2 = [⟨1, 2, 0, 0, cA1, 48, [], true, 0, 0, 0, [], 0, []⟩] ∧ re1.1.ov = false := ⟨by kernel_rfl, by kernel_rfl, by kernel_rfl⟩
set_option maxRecDepth 100000 in
theorem re2_is : re2.2.1.length = 1 ∧ re2.2.2 = [] ∧ re2.1.ov = false := ⟨by kernel_rfl, by kernel_rfl, by kernel_rfl⟩
set_option maxRecDepth 100000 in
theorem re3_is (p : Sv) : (re3 p).2.1 = [] ∧ (re3 p).2.2 = [⟨1, 2, 1, 0, cB1, 33, [], true, 0, 0, 0, [], 0, []⟩] := ⟨by kernel_rfl, by kernel_rfl⟩
set_option maxRecDepth 100000 in
theorem ha1 : handleF 2 st0 [] mA = re1 := handle_is ⟨rfl, by kernel_rfl, by kernel_rfl, learn_zero (by kernel_rfl) ⟨by kernel_rfl, fun c hc h => by
  have h0 : hasE [] c.i = false := rfl
  rw [show st0.xs = [] from rfl, h0] at h; cases h⟩⟩
theorem ha2 : handleF 2 re1.1 re1.2.1 mB = re2 := handle_is ⟨re1_is.2.2, by kernel_rfl, by kernel_rfl, learn_zero (by kernel_rfl) ⟨by kernel_rfl, fun c hc h => by
  have e : c = cB1 := by simpa using hc
  subst e
  exact absurd h (by rw [show hasE re1.1.xs 17 = false by kernel_rfl]; simp)⟩⟩
theorem ha3 (p : Sv) : handleF 2 re2.1 re2.2.1 (mC p) = re3 p := handle_is ⟨re2_is.2.2, by kernel_rfl, by kernel_rfl, learn_zero (by kernel_rfl) ⟨by kernel_rfl, fun c hc h => by
  have e : c = cA1 ∨ c = cB1 := by simpa using hc
  rcases e with rfl | rfl
  · show (lookE re2.1.xs _).c = _; kernel_rfl
  · show (lookE re2.1.xs _).c = _; kernel_rfl⟩⟩
theorem iv0 : Iv st0 [] := ⟨fun y hy => by simp at hy, fun y hy => by simp at hy, fun y hy => by simp at hy, fun y hy => by simp at hy, fun i hi => by cases hi⟩
theorem iv1 : Iv re1.1 re1.2.1 := by have := (handle_p (nd := 2) iv0 (m := mA) ⟨by simp, by simp, by simp⟩).iv; rw [ha1] at this; exact this
theorem iv2 : Iv re2.1 re2.2.1 := by have := (handle_p (nd := 2) iv1 (m := mB) ⟨by simp, by simp, by simp⟩).iv; rw [ha2] at this; exact this
end Go.Proofs.YtlehcaacfgocaaaGreat
