import Derived.Test.YtbcmhnaiabifjaaHBoundZm
import Derived.Test.YtbcmhnaiabifjaaG34
import Derived.ChangeSlices
/- The law ChooseBound: for every cluster of three to nine, every list of messages, and every two sets, if of that many promises a classic quorum has accepted one value at a ballot, or above, and no other at that, or above, any classic quorum of them leaves that value bound, or the live question is asked alone; the law returns true. No condition. -/
namespace Go.Proofs.Ytbcmhnaiabifjaa
set_option linter.unusedVariables false
open Go.Joins Go.ChangeShapes Go.WideShapes Go.ChangeAt Go.RowKit Go.Deep
set_option maxRecDepth 100000 in
theorem lifted (os : Os) (started : os.Started) (H : Type) (enc : TypeId × Value → H) :
    ReturnsInHanded {} Try.checked os 5 .any (Rows.chooseBoundSpec.pre6 enc Try.prog Try.f5 Rows.chooseBoundRow.domain false) (Rows.chooseBoundSpec.post enc Try.prog Try.f5 false true false false) := by
  refine returnsInHanded_of_change (C := Try.checked) own started (by kernel_rfl) Try.func5
    (ChangeSpec.witness6 (enc := enc) (C := Try.checked) false ⟨#[], #[.int .u8 0, .slice none 0 0, .agg #[.int .u16 0, .int .u16 0]], []⟩ 8 (by kernel_rfl) (by kernel_rfl) (by kernel_rfl) (by kernel_rfl)) ?_
  intro W base args ds gs before hval0 hW hcnd _
  have hval : ∀ (j : Nat) t v, Try.f5.params[j]? = some t → args[j]? = some v → Value.okWide Try.prog W .any base t v := hval0
  have hW' := hW
  obtain ⟨p, q, hA0, hV, rfl, hfz, hnd⟩ := hW
  have hA : DataW.TrodAll enc Try.prog W 0 (fun _ => true) true Try.f5.params.toList args.toList ds p := hA0
  rw [Try.params5] at hA hval
  obtain ⟨v0, v1, v2, d0, d1, d2, p0, p1, p2, rfl, rfl, rfl, h0, h1, h2⟩ := trodAll_three hA
  obtain ⟨rfl, rfl⟩ := trodVars_none hV
  obtain ⟨nd, rfl, rfl, rfl, wi⟩ := open_int Try.underlying5 (hval 0 5 v0 rfl rfl) h0
  obtain ⟨ls, hac, haa, hal⟩ := open_msgs (hval 1 22 v1 rfl rfl) h1
  obtain ⟨x0, x1, rfl, rfl, rfl, w0, w1⟩ := Read.open_arr2 Try.underlying42 Try.underlying41 (by kernel_rfl) (by kernel_rfl) (hval 2 42 v2 rfl rfl) h2
  have wi' := wi
  have w0' := w0
  have w1' := w1
  simp only [Lit.wf, Bool.and_eq_true, decide_eq_true_eq] at wi' w0' w1'
  have hn : 0 ≤ nd ∧ nd ≤ 255 := ⟨wi'.1, wi'.2⟩
  have hx0 : 0 ≤ x0 ∧ x0 ≤ 65535 := ⟨w0'.1, w0'.2⟩
  have hx1 : 0 ≤ x1 ∧ x1 ≤ 65535 := ⟨w1'.1, w1'.2⟩
  refine (cChooseBound (ls := ls) hn hx0 hx1 hac (fun m hm => (haa m hm).1) hal).mono fun e W' ⟨he, hB⟩ => ?_
  subst he
  have hlt1 : ∀ x ∈ p1, x.block < W.heap.size := fun x hx => hW'.lt x (by simp [hx])
  exact ⟨_, rfl, _, _, _, [], [] ++ (p1 ++ ([] ++ [])), [], hW', trodAll_mk1 (shut_bool Try.underlying4 _), trodAll_cons_mk (shut_int Try.underlying5 wi) (trodAll_cons_mk (Below.trod laidOut (by kernel_rfl) (of_decide_eq_true (by kernel_rfl)) h1 hB hlt1) (trodAll_cons_mk (Read.shut_arr2 Try.underlying42 Try.underlying41 (by kernel_rfl) (by kernel_rfl) w0 w1) trodAll_mk0)), rfl, hB.frame _, fun h => by cases h⟩
theorem over : Rows.chooseBoundRow.holds Try.pinned (OpenSpec.ofChange Rows.chooseBoundSpec) :=
  OpenClaim.holds_of_wide 5 Try.f5 rfl rfl rfl rfl rfl rfl rfl ⟨rfl, rfl, rfl, rfl, rfl⟩ rfl rfl rfl rfl rfl (by kernel_rfl) Try.func5 (by kernel_rfl)
    (of_decide_eq_true (by kernel_rfl)) (by unfold Func.isWrapper; first | (rw [if_pos (by decide +kernel)]; kernel_rfl) | (rw [if_neg (by decide +kernel)]; exact ⟨rfl, rfl⟩))
    (fun os started H enc _ => lifted os started H enc)
theorem proved : Rows.ChooseBoundSaid :=
  over
end Go.Proofs.Ytbcmhnaiabifjaa
