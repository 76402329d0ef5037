/- The laws' crossed: no buy that rests meets a sell. -/
import Derived.Test.YtolbgmihphonbaaBTell
namespace Go.Proofs.Ytolbgmihphonbaa
set_option linter.unusedVariables false
open Go.RowKit
open Go.Lib (hid)

theorem belowDrewN {B : Nat} {w W : World} (h : Below B w W) (n : Nat) : Below B w (W.drewN n) := ⟨h.1, h.2, h.3, h.4, h.5⟩
theorem OwnO.first {w : World} {B : Nat} {v : Value} {x : Od} {xs : List Od} (h : OwnO w B v (x :: xs)) : ∃ g cap n, v = .slice (some ⟨g, 0, none⟩) n cap ∧ n = xs.length + 1 ∧ g < w.heap.size ∧ w.cell? ⟨g, 0, none⟩ = some (.int .i64 x.i) ∧ w.cell? ⟨g, 1, none⟩ = some (.int .i64 x.s) ∧ w.cell? ⟨g, 2, none⟩ = some (.int .i64 x.p) ∧ w.cell? ⟨g, 3, none⟩ = some (.int .i64 x.n) := by
  rcases h.shape with ⟨_, e⟩ | ⟨g, cap, e, _, _, _, hg, hc, _⟩
  · cases e
  · have := hc 0 x rfl
    simp at this
    exact ⟨g, cap, _, e, rfl, hg, this⟩
set_option maxHeartbeats 400000 in
set_option maxRecDepth 100000 in
theorem cCrossed {w : World} {B p : Nat} {va vb : Value} {bs ss : List Od} (h : BkA w B p va vb bs ss) (hF : FineB bs ss) :
    Calls Try.prog 11 #[ptr p] w fun e w' => e = .returned (.bool false) ∧ Below w.heap.size w w' := by
  have HO0 : Hid (∀ W, Below w.heap.size w W → Calls Try.prog 12 #[ptr p, .int .i64 0] W fun e w' => ∃ r, e = .returned r ∧ OwnO w' W.heap.size r bs ∧ Below W.heap.size W w') := hid fun W hW => cOrders0 (h.on hW) hF.lens
  have HO1 : Hid (∀ W, Below w.heap.size w W → Calls Try.prog 12 #[ptr p, .int .i64 1] W fun e w' => ∃ r, e = .returned r ∧ OwnO w' W.heap.size r ss ∧ Below W.heap.size W w') := hid fun W hW => cOrders1 (h.on hW) hF.lens
  have hlen := hF.len
  rcases bs with _ | ⟨x, xs⟩
  · clear h hF
    go_enter Try.func11, Try.ntmps11
    go_wp2_with fail
    go_at_call 12
    refine (HO0.out _ (Below.refl _ _)).mono ?_
    rintro e w1 ⟨v, rfl, hO, hB1⟩
    obtain ⟨a, cap, n, rfl, hn⟩ := hO.asSlice
    simp at hn
    subst hn
    have HB1 := hid hB1
    clear hO hB1
    go_wp2_with fail
    go_at_call 12
    refine (HO1.out _ HB1.out).mono ?_
    rintro e w2 ⟨v2, rfl, hO2, hB2⟩
    obtain ⟨a2, cap2, n2, rfl, hn2⟩ := hO2.asSlice
    have HB2 := hid (HB1.out.trans (hB2.mono HB1.out.size))
    clear hO2 hB2 hn2
    go_wp2_with fail
    go_quiet (fail)
    all_goals (
      go_wp2_with fail
      go_ret
      exact ⟨rfl, belowDrewN HB2.out _⟩)
  · rcases ss with _ | ⟨y, ys⟩
    · clear h hF
      go_enter Try.func11, Try.ntmps11
      go_wp2_with fail
      go_at_call 12
      refine (HO0.out _ (Below.refl _ _)).mono ?_
      rintro e w1 ⟨v, rfl, hO, hB1⟩
      obtain ⟨g, cap, n, rfl, hn, _⟩ := hO.first
      have hn1 : 0 < n := by omega
      have hn8 : n ≤ 8 := by simp at hlen; omega
      have HB1 := hid hB1
      clear hO hB1 hn
      go_wp2_with fail
      go_at_call 12
      refine (HO1.out _ HB1.out).mono ?_
      rintro e w2 ⟨v2, rfl, hO2, hB2⟩
      obtain ⟨a2, cap2, n2, rfl, hn2⟩ := hO2.asSlice
      simp at hn2
      subst hn2
      have HB2 := hid (HB1.out.trans (hB2.mono HB1.out.size))
      clear hO2 hB2
      go_wp2_with fail
      go_quiet (fail)
      all_goals (
        go_wp2_with fail
        go_ret
        exact ⟨rfl, belowDrewN HB2.out _⟩)
    · have hxy : x.p < y.p := hF.un x (by simp) y (by simp)
      have hnc : ¬ y.p ≤ x.p := by omega
      clear h hF
      go_enter Try.func11, Try.ntmps11
      go_wp2_with fail
      go_at_call 12
      refine (HO0.out _ (Below.refl _ _)).mono ?_
      rintro e w1 ⟨v, rfl, hO, hB1⟩
      obtain ⟨g, cap, n, rfl, hn, hg, k0, k1, k2, k3⟩ := hO.first
      have hn1 : 0 < n := by omega
      have hn8 : n ≤ 8 := by simp at hlen; omega
      have HB1 := hid hB1
      clear hO hB1 hn k0 k1 k3
      go_wp2_with fail
      go_at_call 12
      refine (HO1.out _ HB1.out).mono ?_
      rintro e w2 ⟨v2, rfl, hO2, hB2⟩
      obtain ⟨g2, cap2, n2, rfl, hn2, hg2, m0, m1, m2, m3⟩ := hO2.first
      have hm1 : 0 < n2 := by omega
      have hm8 : n2 ≤ 8 := by simp at hlen; omega
      have d2 := (hB2.cell (p := ⟨g, 2, none⟩) hg).trans k2
      have HB2 := hid (HB1.out.trans (hB2.mono HB1.out.size))
      clear hO2 hB2 hn2 m0 m1 m3 k2
      go_wp2_with fail
      go_quiet (fail)
      all_goals (
        go_wp2_with fail
        go_ret
        exact ⟨ret_bool (decide_eq_false (by omega)), belowDrewN HB2.out _⟩)
end Go.Proofs.Ytolbgmihphonbaa
