/- The law StampNew: for every t, b and who, the next timestamp and the next ballot are above, and the replica's own, and two replicas never make the same timestamp; the law returns true and leaves its arguments alone. No condition. -/
import Derived.Test.YtjpojlbldimckaaAbove
import Derived.Test.YtjpojlbldimckaaRead
import Derived.WalkKit
import Derived.ProofKit
import Derived.OpenShut
namespace Go.Proofs.Ytjpojlbldimckaa.stampNew
open Go.ChangeShapes Go.WideShapes Go.ChangeAt Go.RowKit Go.Proofs.Ytjpojlbldimckaa.Read
set_option linter.unusedVariables false

theorem own : ownKnob Try.prog.godebug = none := by kernel_rfl

theorem sNext_ok (t p : Int) (w : World) (hc : countI t < 65535) (h0 : 0 ≤ p) (h1 : p ≤ 8) : Calls Try.prog 19 #[.int .i64 t, .int .i64 p] w fun e w' => e = .returned (.tuple #[.int .i64 (16 * (countI t + 1) + p), .int .i64 0]) ∧ w = w' := by
  have hb := count_bd t
  refine (sNext_any t p w).mono ?_
  rintro e w' ⟨rfl, rfl⟩
  exact ⟨ret_two (by unfold mkV; rw [if_neg (by omega)]) (by unfold mkE; rw [if_neg (by omega), if_neg (by omega)]), rfl⟩
theorem sNext_over (t p : Int) (w : World) (hc : 65535 ≤ countI t) (h0 : 0 ≤ p) (h1 : p ≤ 8) : Calls Try.prog 19 #[.int .i64 t, .int .i64 p] w fun e w' => e = .returned (.tuple #[.int .i64 0, .int .i64 8]) ∧ w = w' := by
  refine (sNext_any t p w).mono ?_
  rintro e w' ⟨rfl, rfl⟩
  exact ⟨ret_two (by unfold mkV; rw [if_pos (by omega)]) (by unfold mkE; rw [if_neg (by omega), if_pos (by omega)]), rfl⟩
theorem sValid_x (c p : Int) (w : World) (h : 0 ≤ c) (hc : c < 65535) (h0 : 0 ≤ p) (h1 : p ≤ 8) : Calls Try.prog 21 #[.int .i64 (16 * (c + 1) + p)] w fun e w' => e = .returned (.bool true) ∧ w = w' := by
  refine (sValid_any _ w).mono ?_
  rintro e w' ⟨rfl, rfl⟩
  exact ⟨ret_bool (by rw [valid_true]; omega), rfl⟩
theorem sNode_x (c p : Int) (w : World) (h : 0 ≤ c) (hc : c < 65535) (h0 : 0 ≤ p) (h1 : p ≤ 8) : Calls Try.prog 25 #[.int .i64 (16 * (c + 1) + p)] w fun e w' => e = .returned (.int .i64 p) ∧ w = w' := by
  refine (sNode_any _ w).mono ?_
  rintro e w' ⟨rfl, rfl⟩
  exact ⟨ret_int (by unfold nodeI; rw [if_pos (by omega)]; omega), rfl⟩
theorem sAbove_ok (b p : Int) (w : World) (hb0 : -9223372036854775808 ≤ b) (h0 : 0 ≤ p) (h1 : p ≤ 8) (hb : b < 1048576) (ho : ownI b p 9 ≤ 1048576) : Calls Try.prog 27 #[.int .i64 b, .int .i64 p, .int .i64 9] w fun e w' => e = .returned (.tuple #[.int .i64 (ownI b p 9), .int .i64 0]) ∧ w = w' := by
  refine (sAbove_any b p 9 w hb0).mono ?_
  rintro e w' ⟨rfl, rfl⟩
  exact ⟨ret_two (abV_in b p 9 (by omega) (by omega) h0 (by omega) hb ho) (abE_in b p 9 (by omega) (by omega) h0 (by omega) hb ho), rfl⟩
theorem sAbove_no (b p : Int) (w : World) (hb0 : -9223372036854775808 ≤ b) (h0 : 0 ≤ p) (h1 : p ≤ 8) (hb : ¬ (b < 1048576 ∧ ownI b p 9 ≤ 1048576)) : Calls Try.prog 27 #[.int .i64 b, .int .i64 p, .int .i64 9] w fun e w' => e = .returned (.tuple #[.int .i64 0, .int .i64 8]) ∧ w = w' := by
  refine (sAbove_any b p 9 w hb0).mono ?_
  rintro e w' ⟨rfl, rfl⟩
  exact ⟨ret_two (by unfold abV; rw [if_pos (by omega)]) (by unfold abE; rw [if_neg (by omega), if_pos (by omega)]), rfl⟩
theorem sOwner_x (b p : Int) (w : World) (h0 : 0 ≤ p) (h1 : p ≤ 8) (hb : b < 1048576) (ho : ownI b p 9 ≤ 1048576) : Calls Try.prog 29 #[.int .i64 (ownI b p 9), .int .i64 9] w fun e w' => e = .returned (.int .i64 p) ∧ w = w' := by
  have h := own_own b p 9 (by omega) (by omega) h0 (by omega)
  have h' := own_bd b p 9 (by omega)
  have h'' := least_bd b hb
  refine (sOwner_any _ _ w).mono ?_
  rintro e w' ⟨rfl, rfl⟩
  exact ⟨ret_int (by unfold ownerI; rw [if_pos (by omega)]; exact h), rfl⟩

theorem count_up (t p : Int) (hv : validB t = true) (h0 : 0 ≤ p) : t < 16 * (countI t + 1) + p := by
  rw [valid_true] at hv
  unfold countI
  rw [if_pos hv]
  omega

theorem own_up (b p : Int) (hb : b < 1048576) : b < ownI b p 9 ∧ 2 ≤ ownI b p 9 := by
  have h' := own_bd b p 9 (by omega)
  have h'' := least_bd b hb
  omega

set_option maxHeartbeats 1000000 in
theorem walk (t b x y : Int) (w1 : (Lit.int .i64 b).wf = true) (w2 : (Lit.int .u8 x).wf = true) (w3 : (Lit.int .u8 y).wf = true) (w : World) :
    Calls Try.prog 7 #[.int .i64 t, .int .i64 b, .agg #[.int .u8 x, .int .u8 y]] w fun e w' => e = .returned (.bool true) ∧ Grown w w' := by
  have hb : -9223372036854775808 ≤ b := by have h := w1; simp [Lit.wf, IntKind.min, IntKind.max, IntKind.signed, IntKind.bits] at h; omega
  have hx : 0 ≤ x ∧ x ≤ 255 := by have h := w2; simp [Lit.wf, IntKind.min, IntKind.max, IntKind.signed, IntKind.bits] at h; omega
  have hy : 0 ≤ y ∧ y ≤ 255 := by have h := w3; simp [Lit.wf, IntKind.min, IntKind.max, IntKind.signed, IntKind.bits] at h; omega
  obtain ⟨hx0, hx1⟩ := hx
  obtain ⟨hy0, hy1⟩ := hy
  obtain ⟨hc0, hc1⟩ := count_bd t
  clear w1 w2 w3
  by_cases ha : b < 1048576 ∧ ownI b (x % 9) 9 ≤ 1048576
  · obtain ⟨ha0, ha1⟩ := ha
    obtain ⟨hu0, hu1⟩ := own_up b (x % 9) ha0
    by_cases hc : countI t < 65535
    · have hpq : (16 * (countI t + 1) + x % 9 == 16 * (countI t + 1) + y % 9) = (x % 9 == y % 9) := by rw [Bool.eq_iff_iff]; simp
      rcases hv : validB t with _ | _
      · go_enter Try.func7, Try.ntmps7
        go_wp2_with (first | (go_at_call 8; refine (alive_any _).mono ?_; rintro e w' ⟨rfl, rfl⟩) | (go_at_call 19; refine (sNext_ok _ _ _ (by omega) (by omega) (by omega)).mono ?_; rintro e w' ⟨rfl, rfl⟩) | (go_at_call 27; refine (sAbove_ok _ _ _ (by omega) (by omega) (by omega) (by omega) (by omega)).mono ?_; rintro e w' ⟨rfl, rfl⟩) | (go_at_call 29; refine (sOwner_x _ _ _ (by omega) (by omega) (by omega) (by omega)).mono ?_; rintro e w' ⟨rfl, rfl⟩) | (go_at_call 25; refine (sNode_x _ _ _ (by omega) (by omega) (by omega) (by omega)).mono ?_; rintro e w' ⟨rfl, rfl⟩) | (go_at_call 21; ((with_reducible refine (sValid_x _ _ _ (by omega) (by omega) (by omega) (by omega)).mono ?_); rintro e w' ⟨rfl, rfl⟩)) | (go_at_call 21; refine (sValid_any _ _).mono ?_; rintro e w' ⟨rfl, rfl⟩))
        go_ret
        exact ⟨rfl, (Grown.refl _).alloc _ _⟩
      · have hup := count_up t (x % 9) hv (by omega)
        go_enter Try.func7, Try.ntmps7
        go_wp2_with (first | (go_at_call 8; refine (alive_any _).mono ?_; rintro e w' ⟨rfl, rfl⟩) | (go_at_call 19; refine (sNext_ok _ _ _ (by omega) (by omega) (by omega)).mono ?_; rintro e w' ⟨rfl, rfl⟩) | (go_at_call 27; refine (sAbove_ok _ _ _ (by omega) (by omega) (by omega) (by omega) (by omega)).mono ?_; rintro e w' ⟨rfl, rfl⟩) | (go_at_call 29; refine (sOwner_x _ _ _ (by omega) (by omega) (by omega) (by omega)).mono ?_; rintro e w' ⟨rfl, rfl⟩) | (go_at_call 25; refine (sNode_x _ _ _ (by omega) (by omega) (by omega) (by omega)).mono ?_; rintro e w' ⟨rfl, rfl⟩) | (go_at_call 21; ((with_reducible refine (sValid_x _ _ _ (by omega) (by omega) (by omega) (by omega)).mono ?_); rintro e w' ⟨rfl, rfl⟩)) | (go_at_call 21; refine (sValid_any _ _).mono ?_; rintro e w' ⟨rfl, rfl⟩))
        go_ret
        exact ⟨rfl, (Grown.refl _).alloc _ _⟩
    · go_enter Try.func7, Try.ntmps7
      go_wp2_with (first | (go_at_call 8; refine (alive_any _).mono ?_; rintro e w' ⟨rfl, rfl⟩) | (go_at_call 19; refine (sNext_over _ _ _ (by omega) (by omega) (by omega)).mono ?_; rintro e w' ⟨rfl, rfl⟩) | (go_at_call 27; refine (sAbove_ok _ _ _ (by omega) (by omega) (by omega) (by omega) (by omega)).mono ?_; rintro e w' ⟨rfl, rfl⟩) | (go_at_call 29; refine (sOwner_x _ _ _ (by omega) (by omega) (by omega) (by omega)).mono ?_; rintro e w' ⟨rfl, rfl⟩) | (go_at_call 25; refine (sNode_x _ _ _ (by omega) (by omega) (by omega) (by omega)).mono ?_; rintro e w' ⟨rfl, rfl⟩) | (go_at_call 21; ((with_reducible refine (sValid_x _ _ _ (by omega) (by omega) (by omega) (by omega)).mono ?_); rintro e w' ⟨rfl, rfl⟩)) | (go_at_call 21; refine (sValid_any _ _).mono ?_; rintro e w' ⟨rfl, rfl⟩))
      go_ret
      exact ⟨rfl, (Grown.refl _).alloc _ _⟩
  · have Ha := Lib.hid ha
    clear ha
    by_cases hc : countI t < 65535
    · have hpq : (16 * (countI t + 1) + x % 9 == 16 * (countI t + 1) + y % 9) = (x % 9 == y % 9) := by rw [Bool.eq_iff_iff]; simp
      rcases hv : validB t with _ | _
      · go_enter Try.func7, Try.ntmps7
        go_wp2_with (first | (go_at_call 8; refine (alive_any _).mono ?_; rintro e w' ⟨rfl, rfl⟩) | (go_at_call 19; refine (sNext_ok _ _ _ (by omega) (by omega) (by omega)).mono ?_; rintro e w' ⟨rfl, rfl⟩) | (go_at_call 27; refine (sAbove_no _ _ _ (by omega) (by omega) (by omega) Ha.out).mono ?_; rintro e w' ⟨rfl, rfl⟩) | (go_at_call 29; refine (sOwner_x _ _ _ (by omega) (by omega) (by omega) (by omega)).mono ?_; rintro e w' ⟨rfl, rfl⟩) | (go_at_call 25; refine (sNode_x _ _ _ (by omega) (by omega) (by omega) (by omega)).mono ?_; rintro e w' ⟨rfl, rfl⟩) | (go_at_call 21; ((with_reducible refine (sValid_x _ _ _ (by omega) (by omega) (by omega) (by omega)).mono ?_); rintro e w' ⟨rfl, rfl⟩)) | (go_at_call 21; refine (sValid_any _ _).mono ?_; rintro e w' ⟨rfl, rfl⟩))
        go_ret
        exact ⟨rfl, (Grown.refl _).alloc _ _⟩
      · have hup := count_up t (x % 9) hv (by omega)
        go_enter Try.func7, Try.ntmps7
        go_wp2_with (first | (go_at_call 8; refine (alive_any _).mono ?_; rintro e w' ⟨rfl, rfl⟩) | (go_at_call 19; refine (sNext_ok _ _ _ (by omega) (by omega) (by omega)).mono ?_; rintro e w' ⟨rfl, rfl⟩) | (go_at_call 27; refine (sAbove_no _ _ _ (by omega) (by omega) (by omega) Ha.out).mono ?_; rintro e w' ⟨rfl, rfl⟩) | (go_at_call 29; refine (sOwner_x _ _ _ (by omega) (by omega) (by omega) (by omega)).mono ?_; rintro e w' ⟨rfl, rfl⟩) | (go_at_call 25; refine (sNode_x _ _ _ (by omega) (by omega) (by omega) (by omega)).mono ?_; rintro e w' ⟨rfl, rfl⟩) | (go_at_call 21; ((with_reducible refine (sValid_x _ _ _ (by omega) (by omega) (by omega) (by omega)).mono ?_); rintro e w' ⟨rfl, rfl⟩)) | (go_at_call 21; refine (sValid_any _ _).mono ?_; rintro e w' ⟨rfl, rfl⟩))
        go_ret
        exact ⟨rfl, (Grown.refl _).alloc _ _⟩
    · go_enter Try.func7, Try.ntmps7
      go_wp2_with (first | (go_at_call 8; refine (alive_any _).mono ?_; rintro e w' ⟨rfl, rfl⟩) | (go_at_call 19; refine (sNext_over _ _ _ (by omega) (by omega) (by omega)).mono ?_; rintro e w' ⟨rfl, rfl⟩) | (go_at_call 27; refine (sAbove_no _ _ _ (by omega) (by omega) (by omega) Ha.out).mono ?_; rintro e w' ⟨rfl, rfl⟩) | (go_at_call 29; refine (sOwner_x _ _ _ (by omega) (by omega) (by omega) (by omega)).mono ?_; rintro e w' ⟨rfl, rfl⟩) | (go_at_call 25; refine (sNode_x _ _ _ (by omega) (by omega) (by omega) (by omega)).mono ?_; rintro e w' ⟨rfl, rfl⟩) | (go_at_call 21; ((with_reducible refine (sValid_x _ _ _ (by omega) (by omega) (by omega) (by omega)).mono ?_); rintro e w' ⟨rfl, rfl⟩)) | (go_at_call 21; refine (sValid_any _ _).mono ?_; rintro e w' ⟨rfl, rfl⟩))
      go_ret
      exact ⟨rfl, (Grown.refl _).alloc _ _⟩

/-! ### THE ROW's STEP: WRITTEN OUT: LEAVE IT -/
set_option maxRecDepth 100000 in
theorem lifted (os : Os) (started : os.Started) (H : Type) (enc : TypeId × Value → H) :
    ReturnsInHanded {} Try.checked os 7 .any (Rows.stampNewSpec.pre6 enc Try.prog Try.f7 Rows.stampNewRow.domain false) (Rows.stampNewSpec.post enc Try.prog Try.f7 false true false false) := by
  refine returnsInHanded_of_change (C := Try.checked) own started (by kernel_rfl) Try.func7
    (ChangeSpec.witness6 (enc := enc) (C := Try.checked) false ⟨#[], #[.int .i64 0, .int .i64 0, .agg #[.int .u8 0, .int .u8 0]], []⟩ 8 (by kernel_rfl) (by kernel_rfl) (by kernel_rfl) (by kernel_rfl)) ?_
  intro W base args ds gs before hval0 hW hcnd _
  have hval : ∀ (j : Nat) t v, Try.f7.params[j]? = some t → args[j]? = some v → Value.okWide Try.prog W .any base t v := hval0
  have hW' := hW
  obtain ⟨p, q, hA0, hV, rfl, hfz, hnd⟩ := hW
  have hA : DataW.TrodAll enc Try.prog W 0 (fun _ => true) true Try.f7.params.toList args.toList ds p := hA0
  rw [Try.params7] at hA hval
  obtain ⟨v0, vs0, d0, ds0, p0, q0, hargs, rfl, rfl, h0, r0⟩ := trodAll_cons hA
  obtain ⟨v1, vs1, d1, ds1, p1, q1, rfl, rfl, rfl, h1, r1⟩ := trodAll_cons r0
  obtain ⟨v2, vs2, d2, ds2, p2, q2, rfl, rfl, rfl, h2, r2⟩ := trodAll_cons r1
  obtain ⟨rfl, rfl, rfl⟩ := trodAll_nil r2
  obtain rfl : args = #[v0, v1, v2] := by cases args; simp_all
  obtain ⟨rfl, rfl⟩ := trodVars_none hV
  obtain ⟨a0, rfl, rfl, rfl, w0⟩ := open_int Try.underlying3 (hval 0 3 v0 rfl rfl) h0
  obtain ⟨a1, rfl, rfl, rfl, w1⟩ := open_int Try.underlying3 (hval 1 3 v1 rfl rfl) h1
  obtain ⟨x, y, rfl, rfl, rfl, w2, w3⟩ := open_arr2 Try.underlying37 Try.underlying5 (by kernel_rfl) (by kernel_rfl) (hval 2 37 v2 rfl rfl) h2
  clear hA0 hval0
  simp only [List.append_nil] at hW'
  refine (walk a0 a1 x y w1 w2 w3 W).mono fun e W' ⟨he, hg⟩ => ?_
  subst he
  exact ⟨_, rfl, post_of_same (pa := []) (pv := []) hW' (fun _ _ _ => (trodAll_cons_mk (shut_bool Try.underlying4 _) trodAll_mk0)) (fun sp _ => (trodAll_cons_mk (shut_int Try.underlying3 w0) (trodAll_cons_mk (shut_int Try.underlying3 w1) (trodAll_cons_mk (shut_arr2 Try.underlying37 Try.underlying5 (by kernel_rfl) (by kernel_rfl) w2 w3) trodAll_mk0)))) (fun _ _ => rfl) rfl
    (hg.frame _) hg.2.1 (ok_one (by kernel_rfl) rfl (okWide_bool_mk Try.underlying4 _))⟩

theorem over : Rows.stampNewRow.holds Try.pinned (OpenSpec.ofChange Rows.stampNewSpec) :=
  OpenClaim.holds_of_wide 7 Try.f7 rfl rfl rfl rfl rfl rfl rfl ⟨rfl, rfl, rfl, rfl, rfl⟩ rfl rfl rfl rfl rfl (by kernel_rfl) Try.func7 (by kernel_rfl)
    (of_decide_eq_true (by kernel_rfl)) (by unfold Func.isWrapper; first | (rw [if_pos (by decide +kernel)]; kernel_rfl) | (rw [if_neg (by decide +kernel)]; exact ⟨rfl, rfl⟩))
    (fun os started H enc _ => lifted os started H enc)

/-- ████ THE STATEMENT ████ -/
theorem proved : Rows.StampNewSaid :=
  over
end Go.Proofs.Ytjpojlbldimckaa.stampNew
