/- The law PredsTells: for every two lists of commands and every number, whether the one is a set, its set, its names, the command of the number, the two lists' union, what is left of the one without the other, and whether they are one, are as the document says, or the error; the law returns true. No condition. -/
import Derived.Test.YtpocfhcdffobhaaPTells
import Derived.Test.YtpocfhcdffobhaaOpens
namespace Go.Proofs.Ytpocfhcdffobhaa
set_option linter.unusedVariables false
open Go.Joins Go.ChangeShapes Go.WideShapes Go.ChangeAt Go.RowKit Go.Deep

set_option maxRecDepth 100000 in
theorem wTells_longA (n cap : Nat) (a : Option Addr) (hn : 120 < n) (hm : n ≤ 9223372036854775807) (vb : Value) (id : Int) (w : World) : Calls Try.prog 3 #[.slice a n cap, vb, .int .i64 id] w fun e w' => e = .returned (.bool true) ∧ Below w.heap.size w w' := by
  go_enter Try.func3, Try.ntmps3
  go_wp2_with (go_at_call 5; refine (cAlive _).mono ?_; rintro e w' ⟨rfl, hB⟩)
  go_ret
  exact ⟨rfl, hB⟩
set_option maxRecDepth 100000 in
theorem wTells_longB (n cap n' cap' : Nat) (a a' : Option Addr) (hn : n ≤ 120) (hn' : 120 < n') (hm : n' ≤ 9223372036854775807) (id : Int) (w : World) : Calls Try.prog 3 #[.slice a n cap, .slice a' n' cap', .int .i64 id] w fun e w' => e = .returned (.bool true) ∧ Below w.heap.size w w' := by
  go_enter Try.func3, Try.ntmps3
  go_wp2_with (go_at_call 5; refine (cAlive _).mono ?_; rintro e w' ⟨rfl, hB⟩)
  go_ret
  exact ⟨rfl, hB⟩
theorem wTells_all {va vb : Value} {cs ds : List C7} {w : World} (ha : Sl w va cs) (hb : Sl w vb ds) (hl : cs.length ≤ 9223372036854775807) (hl2 : ds.length ≤ 9223372036854775807) (id : Int) : Calls Try.prog 3 #[va, vb, .int .i64 id] w fun e w' => e = .returned (.bool true) ∧ Below w.heap.size w w' := by
  by_cases h1 : 120 < cs.length
  · obtain ⟨_, _, cap, a, rfl, _⟩ := ha
    exact wTells_longA _ cap a h1 hl vb id w
  by_cases h2 : 120 < ds.length
  · obtain ⟨_, _, cap, a, rfl, _⟩ := ha
    obtain ⟨_, _, cap', a', rfl, _⟩ := hb
    exact wTells_longB _ cap _ cap' a a' (by omega) h2 hl2 id w
  exact wTells ha hb (by omega) (by omega) id

set_option maxRecDepth 100000 in
theorem lifted (os : Os) (started : os.Started) (H : Type) (enc : TypeId × Value → H) :
    ReturnsInHanded {} Try.checked os 3 .any (Rows.predsTellsSpec.pre6 enc Try.prog Try.f3 Rows.predsTellsRow.domain false) (Rows.predsTellsSpec.post enc Try.prog Try.f3 false true false false) := by
  refine returnsInHanded_of_change (C := Try.checked) own started (by kernel_rfl) Try.func3
    (ChangeSpec.witness6 (enc := enc) (C := Try.checked) false ⟨#[], #[.slice none 0 0, .slice none 0 0, .int .i64 0], []⟩ 8 (by kernel_rfl) (by kernel_rfl) (by kernel_rfl) (by kernel_rfl)) ?_
  intro W base args ds gs before hval0 hW hcnd _
  have hval : ∀ (j : Nat) t v, Try.f3.params[j]? = some t → args[j]? = some v → Value.okWide Try.prog W .any base t v := hval0
  have hW' := hW
  obtain ⟨p, q, hA0, hV, rfl, hfz, hnd⟩ := hW
  have hA : DataW.TrodAll enc Try.prog W 0 (fun _ => true) true Try.f3.params.toList args.toList ds p := hA0
  rw [Try.params3] at hA hval
  obtain ⟨v0, v1, v2, d0, d1, d2, p0, p1, p2, rfl, rfl, rfl, h0, h1, h2⟩ := trodAll_three hA
  obtain ⟨rfl, rfl⟩ := trodVars_none hV
  obtain ⟨cs, ha, hl⟩ := open_cmds (hval 0 22 v0 rfl rfl) h0
  obtain ⟨ds', hb, hl2⟩ := open_cmds (hval 1 22 v1 rfl rfl) h1
  obtain ⟨id, rfl, rfl, rfl, wi⟩ := open_int Try.underlying3 (hval 2 3 v2 rfl rfl) h2
  refine (wTells_all ha hb hl hl2 id).mono fun e W' ⟨he, hB⟩ => ?_
  subst he
  have hlt0 : ∀ x ∈ p0, x.block < W.heap.size := fun x hx => hW'.lt x (by simp [hx])
  have hlt1 : ∀ x ∈ p1, x.block < W.heap.size := fun x hx => hW'.lt x (by simp [hx])
  exact ⟨_, rfl, _, _, _, [], p0 ++ (p1 ++ ([] ++ [])), [], hW', trodAll_mk1 (shut_bool Try.underlying4 _), trodAll_cons_mk (Below.trod laidOut (by kernel_rfl) (of_decide_eq_true (by kernel_rfl)) h0 hB hlt0) (trodAll_cons_mk (Below.trod laidOut (by kernel_rfl) (of_decide_eq_true (by kernel_rfl)) h1 hB hlt1) (trodAll_cons_mk (shut_int Try.underlying3 wi) trodAll_mk0)), rfl, hB.frame _, fun h => by cases h⟩

theorem over : Rows.predsTellsRow.holds Try.pinned (OpenSpec.ofChange Rows.predsTellsSpec) :=
  OpenClaim.holds_of_wide 3 Try.f3 rfl rfl rfl rfl rfl rfl rfl ⟨rfl, rfl, rfl, rfl, rfl⟩ rfl rfl rfl rfl rfl (by kernel_rfl) Try.func3 (by kernel_rfl)
    (of_decide_eq_true (by kernel_rfl)) (by unfold Func.isWrapper; first | (rw [if_pos (by decide +kernel)]; kernel_rfl) | (rw [if_neg (by decide +kernel)]; exact ⟨rfl, rfl⟩))
    (fun os started H enc _ => lifted os started H enc)

/-- The statement. -/
theorem proved : Rows.PredsTellsSaid :=
  over
end Go.Proofs.Ytpocfhcdffobhaa
