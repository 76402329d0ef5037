import Derived.Test.YtbcmhnaiabifjaaHPromZm
import Derived.Test.YtbcmhnaiabifjaaG25
namespace Go.Proofs.Ytbcmhnaiabifjaa
set_option linter.unusedVariables false
open Go.RowKit
open Go.Lib (hid)
def BalI (ls : List Ms) (k : Nat) (t : Int) : Prop := (t = -1 ∧ ∀ x ∈ ls.take k, isP x = false) ∨ ∃ j f, ls[j]? = some f ∧ isP f = true ∧ (∀ x ∈ ls.take j, isP x = false) ∧ t = f.m.bal ∧ 0 ≤ t ∧ ∀ x ∈ ls.take k, isP x = true → x.m.bal = t
theorem BalI.skip {ls : List Ms} {k : Nat} {t : Int} {y : Ms} (h : BalI ls k t) (hy : ls[k]? = some y) (hp : isP y = false) : BalI ls (k + 1) t := by
  rcases h with ⟨h1, h2⟩ | ⟨j, f, h1, h2, h3, h4, h5, h6⟩
  · exact .inl ⟨h1, no_next hy h2 hp⟩
  · refine .inr ⟨j, f, h1, h2, h3, h4, h5, fun x hx hpx => ?_⟩
    rw [List.take_add_one, hy] at hx
    rcases List.mem_append.1 hx with hx | hx
    · exact h6 x hx hpx
    · simp at hx; subst hx; rw [hp] at hpx; cases hpx
theorem BalI.bad {ls : List Ms} {k : Nat} {t : Int} {y : Ms} (h : BalI ls k t) (hy : ls[k]? = some y) (hp : isP y = true) (h0 : 0 ≤ t) (hm : ¬ y.m.bal = t) : ballB ls = false := by
  rcases h with ⟨h1, h2⟩ | ⟨j, f, h1, h2, h3, h4, h5, h6⟩
  · omega
  · exact ball_no (find_hit h1 h3 h2) (List.mem_of_getElem? hy) hp (by rw [← h4]; exact hm)
end Go.Proofs.Ytbcmhnaiabifjaa
