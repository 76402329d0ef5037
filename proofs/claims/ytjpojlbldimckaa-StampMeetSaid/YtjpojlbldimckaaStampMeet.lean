/- The law StampMeet: of a cluster of any size, any two classic quorums, any two fast ones and a classic one, have a replica in common, and what a fast one has done as many of a classic one have done as are needed; the law returns true and leaves its arguments alone. No condition. -/
import Derived.Test.YtjpojlbldimckaaStamp
import Derived.Test.YtjpojlbldimckaaRead
import Derived.Test.YtjpojlbldimckaaOnes
import Derived.WalkKit
import Derived.ProofKit
import Derived.OpenShut
import Derived.Deep.DeepCutAuto
namespace Go.Proofs.Ytjpojlbldimckaa.stampMeet
open Go.ChangeShapes Go.WideShapes Go.ChangeAt Go.RowKit Go.Proofs.Ytjpojlbldimckaa.Read Go.Proofs.Ytjpojlbldimckaa.Ones
set_option linter.unusedVariables false

theorem own : ownKnob Try.prog.godebug = none := by kernel_rfl

set_option maxRecDepth 100000 in
set_option maxHeartbeats 2000000 in
theorem walk (z x0 x1 x2 : Int) (wz : (Lit.int .u8 z).wf = true) (w0 : (Lit.int .u16 x0).wf = true) (w1 : (Lit.int .u16 x1).wf = true) (w2 : (Lit.int .u16 x2).wf = true) (w : World) :
    Calls Try.prog 6 #[.int .u8 z, .agg #[.int .u16 x0, .int .u16 x1, .int .u16 x2]] w fun e w' => e = .returned (.bool true) ∧ Grown w w' := by
  obtain ⟨hz0, hz1⟩ := Go.bounds_u8 wz
  clear wz w0 w1 w2
  go_enter Try.func6, Try.ntmps6
  go_upto_region 5 with fail
  go_cut [5, 7, 8, 9] (fun sn sa sb sc wx => ∃ n a b c : Int, 3 ≤ n ∧ n ≤ 9 ∧ 0 ≤ a ∧ a ≤ 65535 ∧ 0 ≤ b ∧ b ≤ 65535 ∧ 0 ≤ c ∧ c ≤ 65535 ∧ sn = .int .i64 n ∧ sa = .int .u16 a ∧ sb = .int .u16 b ∧ sc = .int .u16 c ∧ Grown w wx)
  case first =>
    go_wp2_with fail
    go_meet
    exact ⟨_, _, _, _, by omega, by omega, (and_bd _ _).1, (and_bd _ _).2, (and_bd _ _).1, (and_bd _ _).2, (and_bd _ _).1, (and_bd _ _).2, rfl, rfl, rfl, rfl, (Grown.refl _).alloc _ _⟩
  case rest =>
    obtain ⟨n, a, b, c, hn0, hn1, ha0, ha1, hb0, hb1, hc0, hc1, rfl, rfl, rfl, rfl, hg⟩ := hcut
    have Hg := Lib.hid hg
    clear hg
    obtain ⟨oa0, oa1⟩ := onesI_bd a n (by omega)
    obtain ⟨ob0, ob1⟩ := onesI_bd b n (by omega)
    obtain ⟨oc0, oc1⟩ := onesI_bd c n (by omega)
    obtain ⟨ab0, ab1⟩ := and_bd a b
    obtain ⟨ac0, ac1⟩ := and_bd a c
    obtain ⟨abc0, abc1⟩ := and_bd (bits .and .u16 a b) c
    have iab := onesI_and a b n ha0 ha1 hb0 hb1 (by omega)
    have iac := onesI_and a c n ha0 ha1 hc0 hc1 (by omega)
    have iabc := onesI_and (bits .and .u16 a b) c n ab0 ab1 hc0 hc1 (by omega)
    have zab : bits .and .u16 a b = 0 → onesI (bits .and .u16 a b) n = 0 := fun h => by rw [h]; exact onesI_zero n
    have zabc : bits .and .u16 (bits .and .u16 a b) c = 0 → onesI (bits .and .u16 (bits .and .u16 a b) c) n = 0 := fun h => by rw [h]; exact onesI_zero n
    have nab : n / 2 + 1 ≤ onesI a n → n / 2 + 1 ≤ onesI b n → (bits .and .u16 a b == 0) = false := fun h h' => by simp; intro h0; have := zab h0; omega
    have nabc : (3 * n + 3) / 4 ≤ onesI a n → (3 * n + 3) / 4 ≤ onesI b n → n / 2 + 1 ≤ onesI c n → (bits .and .u16 (bits .and .u16 a b) c == 0) = false := fun h h' h'' => by simp; intro h0; have := zabc h0; omega
    clear zab zabc iab iabc
    have hq : n / 2 + 1 ≤ (3 * n + 3) / 4 := by omega
    have hlast : n / 2 + 1 < 2 * ((3 * n + 3) / 4 - (n - (n / 2 + 1))) := by omega
    by_cases ta : n / 2 + 1 ≤ onesI a n
    · by_cases tb : n / 2 + 1 ≤ onesI b n
      · have e1 := nab ta tb
        by_cases fa : (3 * n + 3) / 4 ≤ onesI a n
        · by_cases fb : (3 * n + 3) / 4 ≤ onesI b n
          · by_cases tc : n / 2 + 1 ≤ onesI c n
            · have e2 := nabc fa fb tc
              clear nab nabc
              go_wp2_with (first | (go_at_call 8; refine (alive_any _).mono ?_; rintro e w' ⟨rfl, rfl⟩) | (go_at_call 31; refine (ones_any _ _ _ (by omega) (by omega) (by omega) (by omega)).mono ?_; rintro e w' ⟨rfl, rfl⟩) | (go_at_call 11; refine (sClassic_yes _ _ (by omega) (by omega)).mono ?_; rintro e w' ⟨rfl, rfl⟩) | (go_at_call 13; refine (sFast_yes _ _ (by omega) (by omega)).mono ?_; rintro e w' ⟨rfl, rfl⟩) | (go_at_call 15; refine (sNeed_yes _ _ _ (by omega) (by omega) (by omega) (by omega)).mono ?_; rintro e w' ⟨rfl, rfl⟩))
              go_ret
              exact ⟨rfl, Hg.out⟩
            · clear nab nabc
              go_wp2_with (first | (go_at_call 8; refine (alive_any _).mono ?_; rintro e w' ⟨rfl, rfl⟩) | (go_at_call 31; refine (ones_any _ _ _ (by omega) (by omega) (by omega) (by omega)).mono ?_; rintro e w' ⟨rfl, rfl⟩) | (go_at_call 11; refine (sClassic_yes _ _ (by omega) (by omega)).mono ?_; rintro e w' ⟨rfl, rfl⟩) | (go_at_call 13; refine (sFast_yes _ _ (by omega) (by omega)).mono ?_; rintro e w' ⟨rfl, rfl⟩) | (go_at_call 15; refine (sNeed_yes _ _ _ (by omega) (by omega) (by omega) (by omega)).mono ?_; rintro e w' ⟨rfl, rfl⟩))
              go_ret
              exact ⟨rfl, Hg.out⟩
          · clear nab nabc
            go_wp2_with (first | (go_at_call 8; refine (alive_any _).mono ?_; rintro e w' ⟨rfl, rfl⟩) | (go_at_call 31; refine (ones_any _ _ _ (by omega) (by omega) (by omega) (by omega)).mono ?_; rintro e w' ⟨rfl, rfl⟩) | (go_at_call 11; refine (sClassic_yes _ _ (by omega) (by omega)).mono ?_; rintro e w' ⟨rfl, rfl⟩) | (go_at_call 13; refine (sFast_yes _ _ (by omega) (by omega)).mono ?_; rintro e w' ⟨rfl, rfl⟩) | (go_at_call 15; refine (sNeed_yes _ _ _ (by omega) (by omega) (by omega) (by omega)).mono ?_; rintro e w' ⟨rfl, rfl⟩))
            go_ret
            exact ⟨rfl, Hg.out⟩
        · have fb : onesI a n < (3 * n + 3) / 4 := by omega
          clear nab nabc
          go_wp2_with (first | (go_at_call 8; refine (alive_any _).mono ?_; rintro e w' ⟨rfl, rfl⟩) | (go_at_call 31; refine (ones_any _ _ _ (by omega) (by omega) (by omega) (by omega)).mono ?_; rintro e w' ⟨rfl, rfl⟩) | (go_at_call 11; refine (sClassic_yes _ _ (by omega) (by omega)).mono ?_; rintro e w' ⟨rfl, rfl⟩) | (go_at_call 13; refine (sFast_yes _ _ (by omega) (by omega)).mono ?_; rintro e w' ⟨rfl, rfl⟩) | (go_at_call 15; refine (sNeed_yes _ _ _ (by omega) (by omega) (by omega) (by omega)).mono ?_; rintro e w' ⟨rfl, rfl⟩))
          go_ret
          exact ⟨rfl, Hg.out⟩
      · have fb : onesI b n < (3 * n + 3) / 4 := by omega
        clear nab nabc
        by_cases fa : (3 * n + 3) / 4 ≤ onesI a n
        · go_wp2_with (first | (go_at_call 8; refine (alive_any _).mono ?_; rintro e w' ⟨rfl, rfl⟩) | (go_at_call 31; refine (ones_any _ _ _ (by omega) (by omega) (by omega) (by omega)).mono ?_; rintro e w' ⟨rfl, rfl⟩) | (go_at_call 11; refine (sClassic_yes _ _ (by omega) (by omega)).mono ?_; rintro e w' ⟨rfl, rfl⟩) | (go_at_call 13; refine (sFast_yes _ _ (by omega) (by omega)).mono ?_; rintro e w' ⟨rfl, rfl⟩) | (go_at_call 15; refine (sNeed_yes _ _ _ (by omega) (by omega) (by omega) (by omega)).mono ?_; rintro e w' ⟨rfl, rfl⟩))
          go_ret
          exact ⟨rfl, Hg.out⟩
        · go_wp2_with (first | (go_at_call 8; refine (alive_any _).mono ?_; rintro e w' ⟨rfl, rfl⟩) | (go_at_call 31; refine (ones_any _ _ _ (by omega) (by omega) (by omega) (by omega)).mono ?_; rintro e w' ⟨rfl, rfl⟩) | (go_at_call 11; refine (sClassic_yes _ _ (by omega) (by omega)).mono ?_; rintro e w' ⟨rfl, rfl⟩) | (go_at_call 13; refine (sFast_yes _ _ (by omega) (by omega)).mono ?_; rintro e w' ⟨rfl, rfl⟩) | (go_at_call 15; refine (sNeed_yes _ _ _ (by omega) (by omega) (by omega) (by omega)).mono ?_; rintro e w' ⟨rfl, rfl⟩))
          go_ret
          exact ⟨rfl, Hg.out⟩
    · have fa : onesI a n < (3 * n + 3) / 4 := by omega
      clear nab nabc
      go_wp2_with (first | (go_at_call 8; refine (alive_any _).mono ?_; rintro e w' ⟨rfl, rfl⟩) | (go_at_call 31; refine (ones_any _ _ _ (by omega) (by omega) (by omega) (by omega)).mono ?_; rintro e w' ⟨rfl, rfl⟩) | (go_at_call 11; refine (sClassic_yes _ _ (by omega) (by omega)).mono ?_; rintro e w' ⟨rfl, rfl⟩) | (go_at_call 13; refine (sFast_yes _ _ (by omega) (by omega)).mono ?_; rintro e w' ⟨rfl, rfl⟩) | (go_at_call 15; refine (sNeed_yes _ _ _ (by omega) (by omega) (by omega) (by omega)).mono ?_; rintro e w' ⟨rfl, rfl⟩))
      go_ret
      exact ⟨rfl, Hg.out⟩


/-! ### THE ROW's STEP: WRITTEN OUT: LEAVE IT -/
set_option maxRecDepth 100000 in
theorem lifted (os : Os) (started : os.Started) (H : Type) (enc : TypeId × Value → H) :
    ReturnsInHanded {} Try.checked os 6 .any (Rows.stampMeetSpec.pre6 enc Try.prog Try.f6 Rows.stampMeetRow.domain false) (Rows.stampMeetSpec.post enc Try.prog Try.f6 false true false false) := by
  refine returnsInHanded_of_change (C := Try.checked) own started (by kernel_rfl) Try.func6
    (ChangeSpec.witness6 (enc := enc) (C := Try.checked) false ⟨#[], #[.int .u8 0, .agg #[.int .u16 0, .int .u16 0, .int .u16 0]], []⟩ 8 (by kernel_rfl) (by kernel_rfl) (by kernel_rfl) (by kernel_rfl)) ?_
  intro W base args ds gs before hval0 hW hcnd _
  have hval : ∀ (j : Nat) t v, Try.f6.params[j]? = some t → args[j]? = some v → Value.okWide Try.prog W .any base t v := hval0
  have hW' := hW
  obtain ⟨p, q, hA0, hV, rfl, hfz, hnd⟩ := hW
  have hA : DataW.TrodAll enc Try.prog W 0 (fun _ => true) true Try.f6.params.toList args.toList ds p := hA0
  rw [Try.params6] at hA hval
  obtain ⟨v0, vs0, d0, ds0, p0, q0, hargs, rfl, rfl, h0, r0⟩ := trodAll_cons hA
  obtain ⟨v1, vs1, d1, ds1, p1, q1, rfl, rfl, rfl, h1, r1⟩ := trodAll_cons r0
  obtain ⟨rfl, rfl, rfl⟩ := trodAll_nil r1
  obtain rfl : args = #[v0, v1] := by cases args; simp_all
  obtain ⟨rfl, rfl⟩ := trodVars_none hV
  obtain ⟨a0, rfl, rfl, rfl, w0⟩ := open_int Try.underlying5 (hval 0 5 v0 rfl rfl) h0
  obtain ⟨x0, x1, x2, rfl, rfl, rfl, w1, w2, w3⟩ := open_arr3 Try.underlying33 Try.underlying32 (by kernel_rfl) (by kernel_rfl) (hval 1 33 v1 rfl rfl) h1
  clear hA0 hval0
  simp only [List.append_nil] at hW'
  refine (walk a0 x0 x1 x2 w0 w1 w2 w3 W).mono fun e W' ⟨he, hg⟩ => ?_
  subst he
  exact ⟨_, rfl, post_of_same (pa := []) (pv := []) hW' (fun _ _ _ => (trodAll_cons_mk (shut_bool Try.underlying4 _) trodAll_mk0)) (fun sp _ => (trodAll_cons_mk (shut_int Try.underlying5 w0) (trodAll_cons_mk (shut_arr3 Try.underlying33 Try.underlying32 (by kernel_rfl) (by kernel_rfl) w1 w2 w3) trodAll_mk0))) (fun _ _ => rfl) rfl
    (hg.frame _) hg.2.1 (ok_one (by kernel_rfl) rfl (okWide_bool_mk Try.underlying4 _))⟩

theorem over : Rows.stampMeetRow.holds Try.pinned (OpenSpec.ofChange Rows.stampMeetSpec) :=
  OpenClaim.holds_of_wide 6 Try.f6 rfl rfl rfl rfl rfl rfl rfl ⟨rfl, rfl, rfl, rfl, rfl⟩ rfl rfl rfl rfl rfl (by kernel_rfl) Try.func6 (by kernel_rfl)
    (of_decide_eq_true (by kernel_rfl)) (by unfold Func.isWrapper; first | (rw [if_pos (by decide +kernel)]; kernel_rfl) | (rw [if_neg (by decide +kernel)]; exact ⟨rfl, rfl⟩))
    (fun os started H enc _ => lifted os started H enc)

/-- ████ THE STATEMENT ████ -/
theorem proved : Rows.StampMeetSaid :=
  over
end Go.Proofs.Ytjpojlbldimckaa.stampMeet
