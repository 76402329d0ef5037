import Derived.Test.YtplodoindppleaaGreatLLawZm
import Derived.Test.YtplodoindppleaaGreatLKinZm
import Derived.Test.YtplodoindppleaaGreatRead
import Derived.ChangeSlices
/- The law LeaderEnough: for every replica of every cluster, and every list of acts, the leader tells a value to be stable only behind a reply that is enough for it; each message goes to each replica; at most 60 acts, sets of 100, else the live question is asked alone; the law returns true. No condition. -/
namespace Go.Proofs.YtplodoindppleaaGreat
set_option linter.unusedVariables false
open Go.Proofs.YtplodoindppleaaGreat.Read Go.Joins Go.ChangeShapes Go.WideShapes Go.ChangeAt Go.RowKit Go.Deep
set_option maxRecDepth 100000 in
theorem lifted (os : Os) (started : os.Started) (H : Type) (enc : TypeId × Value → H) :
 ReturnsInHanded {} Tryz.checked os 4 .any (Rows.leaderEnoughSpec.pre6 enc Tryz.prog Tryz.f4 Rows.leaderEnoughRow.domain false) (Rows.leaderEnoughSpec.post enc Tryz.prog Tryz.f4 false true false false) := by
 refine returnsInHanded_of_change (C := Tryz.checked) own started (by kernel_rfl) Tryz.func4
  (ChangeSpec.witness6 (enc := enc) (C := Tryz.checked) false ⟨#[], #[.agg #[.int .u8 0, .int .u8 0], .slice none 0 0], []⟩ 8 (by kernel_rfl) (by kernel_rfl) (by kernel_rfl) (by kernel_rfl)) ?_
 intro W base args ds gs before hval0 hW hcnd _
 have hval : ∀ (j : Nat) t v, Tryz.f4.params[j]? = some t → args[j]? = some v → Value.okWide Tryz.prog W .any base t v := hval0
 have hW' := hW
 obtain ⟨p, q, hA0, hV, rfl, hfz, hnd⟩ := hW
 have hA : DataW.TrodAll enc Tryz.prog W 0 (fun _ => true) true Tryz.f4.params.toList args.toList ds p := hA0
 rw [Tryz.params4] at hA hval
 obtain ⟨v0, v1, d0, d1, p0, p1, rfl, rfl, rfl, h0, h1⟩ := trodAll_two hA
 obtain ⟨rfl, rfl⟩ := trodVars_none hV
 obtain ⟨x0, x1, rfl, rfl, rfl, wi0, wi1⟩ := open_arr2 (k := .u8) Tryz.underlying62 Tryz.underlying5 (by kernel_rfl) (by kernel_rfl) (hval 0 62 v0 rfl rfl) h0
 obtain ⟨acs, hac, haa, hal⟩ := open_acts (hval 1 23 v1 rfl rfl) h1
 have hx : (0 ≤ x0 ∧ x0 ≤ 255) ∧ 0 ≤ x1 ∧ x1 ≤ 255 := by
  simp only [Lit.wf, Bool.and_eq_true, decide_eq_true_eq] at wi0 wi1
  exact ⟨⟨wi0.1, wi0.2⟩, wi1.1, wi1.2⟩
 refine (cLEnough hx hac haa hal).mono fun e W' ⟨he, hB⟩ => ?_
 subst he
 have hlt1 : ∀ x ∈ p1, x.block < W.heap.size := fun x hx => hW'.lt x (by simp [hx])
 exact ⟨_, rfl, _, _, _, [], [] ++ (p1 ++ []), [], hW', trodAll_mk1 (shut_bool Tryz.underlying4 _), trodAll_cons_mk (shut_arr2 Tryz.underlying62 Tryz.underlying5 (by kernel_rfl) (by kernel_rfl) wi0 wi1) (trodAll_cons_mk (Below.trod laidOut (by kernel_rfl) (of_decide_eq_true (by kernel_rfl)) h1 hB hlt1) trodAll_mk0), rfl, hB.frame _, fun h => by cases h⟩
theorem over : Rows.leaderEnoughRow.holds Tryz.pinned (OpenSpec.ofChange Rows.leaderEnoughSpec) :=
 OpenClaim.holds_of_wide 4 Tryz.f4 rfl rfl rfl rfl rfl rfl rfl ⟨rfl, rfl, rfl, rfl, rfl⟩ rfl rfl rfl rfl rfl (by kernel_rfl) Tryz.func4 (by kernel_rfl)
  (of_decide_eq_true (by kernel_rfl)) (by unfold Func.isWrapper; first | (rw [if_pos (by decide +kernel)]; kernel_rfl) | (rw [if_neg (by decide +kernel)]; exact ⟨rfl, rfl⟩))
  (fun os started H enc _ => lifted os started H enc)
theorem proved : Rows.LeaderEnoughSaid :=
 over
end Go.Proofs.YtplodoindppleaaGreat
