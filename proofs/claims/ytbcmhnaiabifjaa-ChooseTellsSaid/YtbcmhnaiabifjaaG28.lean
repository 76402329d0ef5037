import Derived.Test.YtbcmhnaiabifjaaHR1Zm
import Derived.Test.YtbcmhnaiabifjaaHR2Zm
import Derived.Test.YtbcmhnaiabifjaaHR3Zm
import Derived.Test.YtbcmhnaiabifjaaHR4Zm
import Derived.Test.YtbcmhnaiabifjaaHR5Zm
import Derived.Test.YtbcmhnaiabifjaaHR6Zm
import Derived.Test.YtbcmhnaiabifjaaG14
namespace Go.Proofs.Ytbcmhnaiabifjaa
set_option linter.unusedVariables false
open Go.RowKit
open Go.Lib (hid)
theorem rRightM {w : World} {m : Ms} (hm : m.at w) (hms : m.short 1024) : Calls Try.prog 30 #[.agg m.m.arr] w fun e w' => e = .returned (.bool (rightM m)) ∧ Below w.heap.size w w' := by
  by_cases hg : m.m.c.ok = true ∧ inB m.m.fr 9 = true ∧ inB m.m.tt 9 = true ∧ withinB m.m.bal 1048576 = true
  · by_cases h0 : m.m.so = 0
    · exact rR5_0 hm hms hg h0
    by_cases h1 : m.m.so = 1
    · exact rR5_1 hm hms hg h1
    by_cases h2 : m.m.so = 2
    · exact rR5_2 hm hms hg h2
    by_cases h5 : m.m.so = 5
    · exact rR5_5 hm hms hg h5
    by_cases h7 : m.m.so = 7
    · exact rR5_7 hm hms hg h7
    by_cases h3 : m.m.so = 3
    · exact rR5_3 hm hms hg h3
    by_cases h6 : m.m.so = 6
    · exact rR5_6 hm hms hg h6
    by_cases h8 : m.m.so = 8
    · exact rR5_8 hm hms hg h8
    by_cases h4 : m.m.so = 4
    · rcases hF : fullB m.m.ft m.f with _ | _ <;> rcases hA : fullB m.m.xt m.a with _ | _
      · exact rR5_4ff hm hms hg h4 hF hA
      · exact rR5_4ft hm hms hg h4 hF hA
      · exact rR5_4tf hm hms hg h4 hF hA
      · exact rR5_4tt hm hms hg h4 hF hA
    · exact rR5_x hm hms hg ⟨h0, h1, h2, h5, h7, h3, h6, h8, h4⟩
  · exact rR5_b hm hms hg
end Go.Proofs.Ytbcmhnaiabifjaa
namespace Go.Proofs.Ytbcmhnaiabifjaa
set_option linter.unusedVariables false
open Go.RowKit
open Go.Lib (hid)
theorem rngF {w : World} {b o : Nat} {m : Mg} (h : w.rangeAt b o m.list) : w.rangeAt b (o + 18) (vcs m.ft m.fp) := fun i u hu => by
  rcases i with _ | _ | i
  · obtain rfl := Option.some.inj hu; exact h 18 _ rfl
  · obtain rfl := Option.some.inj hu; exact h 19 _ rfl
  · simp [vcs] at hu
theorem rngA {w : World} {b o : Nat} {m : Mg} (h : w.rangeAt b o m.list) : w.rangeAt b (o + 16) (vcs m.xt m.xp) := fun i u hu => by
  rcases i with _ | _ | i
  · obtain rfl := Option.some.inj hu; exact h 16 _ rfl
  · obtain rfl := Option.some.inj hu; exact h 17 _ rfl
  · simp [vcs] at hu
theorem rngV {w : World} {b o : Nat} {m : Mg} (h : w.rangeAt b o m.list) : w.rangeAt b (o + 11) (vcs m.vt m.vp) := fun i u hu => by
  rcases i with _ | _ | i
  · obtain rfl := Option.some.inj hu; exact h 11 _ rfl
  · obtain rfl := Option.some.inj hu; exact h 12 _ rfl
  · simp [vcs] at hu
set_option maxHeartbeats 8000000 in
set_option maxRecDepth 100000 in
theorem rVotes {v : Value} {ls : List Ms} {w : World} {z : Ms} (h : SlM w v (mgs ls)) (hA : ∀ m ∈ ls, m.at w) (hS : ∀ m ∈ ls, m.short 1024) (hl : ls.length ≤ 1000) (hz : z.at w) (hzs : z.short 1024) : Calls Try.prog 25 #[v, .agg (varr z.m.ft z.m.fp)] w fun e w' => e = .returned (.int .i64 (votesF ls z : Int)) ∧ Below w.heap.size w w' := by
  have HSH := hid hS
  clear hS
  obtain ⟨b, o, cap, a, rfl, ha, hc, hb⟩ := h
  have hlm : (mgs ls).length = ls.length := by unfold mgs; rw [List.length_map]
  rw [hlm] at ha hb ⊢
  have HA := hid hA
  have HCC := hid hc
  obtain ⟨m, hm⟩ : ∃ m, m = ls.length := ⟨_, rfl⟩
  rw [← hm] at ha hb hl ⊢
  have HN := hid hm
  clear hm hA hc hlm
  have HZ := hid hz
  have HZS := hid hzs
  clear hz hzs
  have HB00 := hid (laid1_b w (.cells (varr z.m.ft z.m.fp) 28))
  have HX00 : Hid (OV (w.alloc (.cells (varr z.m.ft z.m.fp) 28)) w.heap.size z.m.ft z.m.fp) := hid (laid1_0 w _)
  have hm1 : m ≤ 1000 := by omega
  go_enter Try.func25, Try.ntmps25
  go_wp2_with fail
  go_loopw [5, 6] (fun s5 i wr => ∃ (k n : Nat), k ≤ m ∧ n ≤ k ∧ i = .int .i64 k ∧ s5 = .int .i64 n ∧ Hid (n = votesF (ls.take k) z) ∧ Hid (Below w.heap.size w wr) ∧ Hid (OV wr w.heap.size z.m.ft z.m.fp)) (fun _ i _ => m - (RowKit.intOf i).toNat)
  case atStart => exact ⟨0, 0, Nat.zero_le _, Nat.le_refl _, rfl, rfl, hid rfl, HB00, HX00⟩
  case round =>
    obtain ⟨k, n, hk, hnk, rfl, rfl, HV, HB, HX⟩ := hrel
    clear HB00 HX00
    by_cases hlt : k < m
    · have hlti : ((k : Int) < m) := by omega
      have HBW := hid (hb (by omega))
      obtain rfl := ha (by omega)
      obtain ⟨y, hy⟩ : ∃ y, ls[k]? = some y := ⟨ls[k]'(by rw [← HN.out]; exact hlt), List.getElem?_eq_getElem (by rw [← HN.out]; exact hlt)⟩
      have hbw := hb (by omega)
      have HC : Hid (wr.rangeAt b (o + k * 20) y.m.list) := hid ((HCC.out.on HB.out fun _ => hbw) k y.m (at_mgs hy))
      have HY := hid hy
      have HYA := hid ((HA.out y (List.mem_of_getElem? hy)).on HB.out)
      clear hy hbw
      have HYS := hid (HSH.out y (List.mem_of_getElem? HY.out))
      have HBX := hid (Nat.lt_of_lt_of_le HBW.out HB.out.size)
      obtain ⟨sb, hsb⟩ : ∃ b, b = (decide (y.m.ft = z.m.ft) && sameB y.f z.f) := ⟨_, rfl⟩
      have HSB := hid hsb
      have HSM : Hid (∀ W, Below wr.heap.size wr W → Calls Try.prog 12 #[.agg (varr y.m.ft y.m.fp), .agg (varr z.m.ft z.m.fp)] W fun e w' => e = .returned (.bool sb) ∧ Below W.heap.size W w') := hid (fun W hW => by rw [hsb]; exact rSameVG _ _ (HYA.out.2.2.on hW) ((HZ.out.2.2.on HB.out).on hW) (Nat.le_trans HYS.out.2.2 (by decide)) (Nat.le_trans HZS.out.2.2 (by decide)))
      have HVN : Hid (votesF (ls.take (k + 1)) z = n + if sb = true then 1 else 0) := hid (by rw [votes_next HY.out, ← HV.out, HSB.out]; rfl)
      clear hsb
      go_upto_region 5 with fail
      refine rh_start (S := fun W => Below wr.heap.size wr W) (n := 8) (listed := #[false, false, false, false, false, false, false, false]) (by kernel_rfl) rfl rfl ?_
      have HS0 : Hid (Below wr.heap.size wr wr.drew) := hid (belowDrew (Below.refl _ _))
      generalize wr.drew = wd at HS0 ⊢
      refine rh_takeS (i := 0) (o := ?o1) (v := ?v1) (listed' := ?l1) (a' := ?a1) ?hi1 (by kernel_rfl) (by kernel_rfl) (by kernel_rfl) ?hq1 ?hl1 ?hw1 ?hv1 ?ha1 HS0.out ?hh1
      case hi1 => (simp only [List.getElem?_toArray, List.getElem?_cons_zero]; try rfl)
      case hq1 => exact fun _ _ _ h => h
      case hl1 => (simp only [List.setIfInBounds_toArray, List.set_cons_zero]; try rfl)
      case hw1 => rfl
      case hv1 =>
        intro W hW
        skip
        go_simp
        try with_reducible rfl
      case ha1 => (simp only [Act.put, List.setIfInBounds_toArray, List.set_cons_succ, List.set_cons_zero]; try rfl)
      refine rh_takeS (i := 1) (o := ?o2) (v := ?v2) (listed' := ?l2) (a' := ?a2) ?hi2 (by kernel_rfl) (by kernel_rfl) (by kernel_rfl) ?hq2 ?hl2 ?hw2 ?hv2 ?ha2 HS0.out ?hh2
      case hi2 => (simp only [List.getElem?_toArray, List.getElem?_cons_succ, List.getElem?_cons_zero]; try rfl)
      case hq2 => exact fun _ _ _ h => h
      case hl2 => (simp only [List.setIfInBounds_toArray, List.set_cons_succ, List.set_cons_zero]; try rfl)
      case hw2 => rfl
      case hv2 =>
        intro W hW
        skip
        go_simp
        try with_reducible rfl
      case ha2 => (simp only [Act.put, List.setIfInBounds_toArray, List.set_cons_succ, List.set_cons_zero]; try rfl)
      refine rh_takeS (i := 2) (o := ?o3) (v := ?v3) (listed' := ?l3) (a' := ?a3) ?hi3 (by kernel_rfl) (by kernel_rfl) (by kernel_rfl) ?hq3 ?hl3 ?hw3 ?hv3 ?ha3 HS0.out ?hh3
      case hi3 => (simp only [List.getElem?_toArray, List.getElem?_cons_succ, List.getElem?_cons_zero]; try rfl)
      case hq3 => exact fun _ _ _ h => h
      case hl3 => (simp only [List.setIfInBounds_toArray, List.set_cons_succ, List.set_cons_zero]; try rfl)
      case hw3 => rfl
      case hv3 =>
        intro W hW
        skip
        go_simp
        try with_reducible rfl
      case ha3 => (simp only [Act.put, List.setIfInBounds_toArray, List.set_cons_succ, List.set_cons_zero]; try rfl)
      refine rh_takeS (i := 3) (o := ?o4) (v := ?v4) (listed' := ?l4) (a' := ?a4) ?hi4 (by kernel_rfl) (by kernel_rfl) (by kernel_rfl) ?hq4 ?hl4 ?hw4 ?hv4 ?ha4 HS0.out ?hh4
      case hi4 => (simp only [List.getElem?_toArray, List.getElem?_cons_succ, List.getElem?_cons_zero]; try rfl)
      case hq4 => exact fun _ _ _ h => h
      case hl4 => (simp only [List.setIfInBounds_toArray, List.set_cons_succ, List.set_cons_zero]; try rfl)
      case hw4 => rfl
      case hv4 =>
        intro W hW
        skip
        go_simp
        try with_reducible rfl
      case ha4 => (simp only [Act.put, List.setIfInBounds_toArray, List.set_cons_succ, List.set_cons_zero]; try rfl)
      refine rh_load (i := 4) (o := ?o5) (cs := vcs y.m.ft y.m.fp) (T := 28) (x := ?x5) (b := ?b5) (q := ?q5) (listed' := ?l5) (a' := ?a5) ?hi5 (by kernel_rfl) (by kernel_rfl) (by kernel_rfl) ?hq5 ?hl5 ?hg5 ?ho5 ?hx5 ?hc5 Try.underlying28 rfl (infoVl y.m.ft y.m.fp) ?ha5 HS0.out ?hh5
      case hi5 => (simp only [List.getElem?_toArray, List.getElem?_cons_succ, List.getElem?_cons_zero]; try rfl)
      case hq5 => exact fun _ _ _ h => h
      case hl5 => (simp only [List.setIfInBounds_toArray, List.set_cons_succ, List.set_cons_zero]; try rfl)
      case hg5 => rfl
      case ho5 => rfl
      case hx5 => rfl
      case hc5 => exact fun W hW => rngF (fun i u hu => (hW.cell HBX.out).trans (HC.out i u hu))
      case ha5 => (show Act.put _ _ (Value.agg (varr y.m.ft y.m.fp)) = _); (simp only [Act.put, List.setIfInBounds_toArray, List.set_cons_succ, List.set_cons_zero]; try rfl)
      refine rh_load (i := 5) (o := ?o6) (cs := vcs z.m.ft z.m.fp) (T := 28) (x := ?x6) (b := ?b6) (q := ?q6) (listed' := ?l6) (a' := ?a6) ?hi6 (by kernel_rfl) (by kernel_rfl) (by kernel_rfl) ?hq6 ?hl6 ?hg6 ?ho6 ?hx6 ?hc6 Try.underlying28 rfl (infoVl z.m.ft z.m.fp) ?ha6 HS0.out ?hh6
      case hi6 => (simp only [List.getElem?_toArray, List.getElem?_cons_succ, List.getElem?_cons_zero]; try rfl)
      case hq6 => exact fun _ _ _ h => h
      case hl6 => (simp only [List.setIfInBounds_toArray, List.set_cons_succ, List.set_cons_zero]; try rfl)
      case hg6 => rfl
      case ho6 => rfl
      case hx6 => rfl
      case hc6 => exact fun W hW => OV.range (HX.out.on hW)
      case ha6 => (show Act.put _ _ (Value.agg (varr z.m.ft z.m.fp)) = _); (simp only [Act.put, List.setIfInBounds_toArray, List.set_cons_succ, List.set_cons_zero]; try rfl)
      refine wpAnyH_ready (rs := [6]) (by kernel_rfl) (by simp) ?_
      refine rh_cons (i := 6) (o := ?o7) (listed' := ?l7) ?hi7 ?hl7 ?hg7 ?hh7 ?hs7
      case hi7 => (simp only [List.getElem?_toArray, List.getElem?_cons_succ, List.getElem?_cons_zero]; try rfl)
      case hl7 => (simp only [List.setIfInBounds_toArray, List.set_cons_succ, List.set_cons_zero]; try rfl)
      case hg7 => rfl
      case hs7 => exact AllReadyH.nil
      intro K hK
      go_simp
      refine (HSM.out _ HS0.out).mono ?_
      rintro e w1 ⟨rfl, hB⟩
      have HS1 := hid (HS0.out.trans (hB.mono HS0.out.size))
      clear hB
      refine hK.out _ _ HS1.out ?_
      clear hK K
      refine rh_takeS (i := 7) (o := ?o8) (v := ?v8) (listed' := ?l8) (a' := ?a8) ?hi8 (by kernel_rfl) (by kernel_rfl) (by kernel_rfl) ?hq8 ?hl8 ?hw8 ?hv8 ?ha8 HS1.out ?hh8
      case hi8 => (simp only [List.getElem?_toArray, List.getElem?_cons_succ, List.getElem?_cons_zero]; try rfl)
      case hq8 => exact fun _ _ _ h => h
      case hl8 => (simp only [List.setIfInBounds_toArray, List.set_cons_succ, List.set_cons_zero]; try rfl)
      case hw8 => rfl
      case hv8 =>
        intro W hW
        skip
        go_simp
        try with_reducible rfl
      case ha8 => (simp only [Act.put, List.setIfInBounds_toArray, List.set_cons_succ, List.set_cons_zero]; try rfl)
      refine wpAnyH_done (by kernel_rfl) ?_ _
      rcases sb with _ | _
      · go_wp2_with fail
        go_roundw
        case rel => exact ⟨k + 1, n, by omega, by omega, by go_num, by first | rfl | go_num, hid (by rw [HVN.out]; simp), hid (HB.out.trans (HS1.out.mono HB.out.size)), hid (HX.out.on HS1.out)⟩
        case measure => first | omega | (simp [RowKit.intOf]; omega)
      · go_wp2_with fail
        go_roundw
        case rel => exact ⟨k + 1, n + 1, by omega, by omega, by go_num, by first | rfl | go_num, hid (by rw [HVN.out]; simp), hid (HB.out.trans (HS1.out.mono HB.out.size)), hid (HX.out.on HS1.out)⟩
        case measure => first | omega | (simp [RowKit.intOf]; omega)
    · have hlti : ¬ ((k : Int) < m) := by omega
      have HE : Hid (k = m) := hid (by omega)
      go_wp2_with fail
      go_ret
      exact ⟨by have := HV.out; rw [HE.out, HN.out, List.take_length] at this; show Ending.returned (.int .i64 (n : Int)) = _; rw [this], HB.out⟩
end Go.Proofs.Ytbcmhnaiabifjaa
