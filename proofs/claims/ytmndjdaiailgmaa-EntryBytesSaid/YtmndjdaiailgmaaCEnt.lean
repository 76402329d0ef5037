/- Entries, the program's own small tests: Valid, isBallot, isReserved, isNone, isValue, hasValue, sameValue. -/
import Derived.Test.YtmndjdaiailgmaaEnt
import Derived.Test.YtmndjdaiailgmaaEnt5
import Derived.Test.YtmndjdaiailgmaaEqualC
namespace Go.Proofs.Ytmndjdaiailgmaa
set_option linter.unusedVariables false
open Go.RowKit
open Go.Lib (hid)

theorem cValid (t : Int) (w : World) : Calls Try.prog 59 #[.int .i64 t] w fun e w' => e = .returned (.bool (validB t)) ∧ w = w' := by
  by_cases h0 : 16 ≤ t
  · by_cases h1 : t < 1048576
    · by_cases h2 : t % 16 < 9
      · go_enter Try.func59, Try.ntmps59
        go_wp2
        go_ret
        exact ⟨ret_bool (by unfold validB; symm; simp; omega), rfl⟩
      · go_enter Try.func59, Try.ntmps59
        go_wp2
        go_ret
        exact ⟨ret_bool (by unfold validB; symm; simp; omega), rfl⟩
    · go_enter Try.func59, Try.ntmps59
      go_wp2
      go_ret
      exact ⟨ret_bool (by unfold validB; symm; simp; omega), rfl⟩
  · go_enter Try.func59, Try.ntmps59
    go_wp2
    go_ret
    exact ⟨ret_bool (by unfold validB; symm; simp; omega), rfl⟩
theorem cBallot (t : Int) (w : World) : Calls Try.prog 18 #[.int .i64 t] w fun e w' => e = .returned (.bool (withinB t 1048576)) ∧ w = w' := by
  by_cases h0 : 0 ≤ t
  · go_enter Try.func18, Try.ntmps18
    go_wp2
    go_ret
    exact ⟨ret_bool (by unfold withinB; symm; simp; omega), rfl⟩
  · go_enter Try.func18, Try.ntmps18
    go_wp2
    go_ret
    exact ⟨ret_bool (by unfold withinB; symm; simp; omega), rfl⟩
set_option maxHeartbeats 600000 in
set_option maxRecDepth 100000 in
theorem cNone {a : Option Addr} {n cap : Nat} {l : List C7} {w : World} (t : Int) (hn : n = l.length) : Calls Try.prog 21 #[.agg #[.int .i64 t, .slice a n cap]] w fun e w' => e = .returned (.bool (noneB t l)) ∧ Below w.heap.size w w' := by
  have HN := hid (show noneB t l = (decide (t = 0) && decide (n = 0)) by unfold noneB; rw [hn])
  clear hn
  by_cases ht : t = 0
  · subst ht
    go_enter Try.func21, Try.ntmps21
    go_wp2
    go_ret
    exact ⟨ret_bool (by rw [HN.out, Bool.eq_iff_iff]; simp), (Below.refl _ w).alloc (Nat.le_refl _) _⟩
  · go_enter Try.func21, Try.ntmps21
    go_wp2
    go_ret
    exact ⟨ret_bool (by rw [HN.out]; simp [ht]), (Below.refl _ w).alloc (Nat.le_refl _) _⟩

set_option maxHeartbeats 1600000 in
set_option maxRecDepth 100000 in
theorem cTimes (lo hi : Int) (w : World) : Calls Try.prog 19 #[.int .i64 lo, .int .i64 hi] w fun e w' => e = .returned (.bool (timesB lo hi)) ∧ w = w' := by
  by_cases h1 : lo = 0
  · subst h1
    by_cases h2 : hi = 0
    · subst h2
      go_enter Try.func19, Try.ntmps19
      go_wp2_with fail
      go_ret
      exact ⟨ret_bool rfl, rfl⟩
    · have hV : ∀ W, Calls Try.prog 59 #[.int .i64 0] W fun e w' => e = .returned (.bool false) ∧ W = w' := fun W => cValid 0 W
      have HE := hid (show timesB 0 hi = false by unfold timesB; rw [show validB 0 = false from rfl]; simp [h2])
      go_enter Try.func19, Try.ntmps19
      go_wp2_with (go_at_call 59; refine (hV _).mono ?_; rintro x w' ⟨rfl, rfl⟩)
      go_ret
      exact ⟨ret_bool (by rw [HE.out]; simp [h2]), rfl⟩
  · have hV1 := fun W => cValid lo W
    have hV2 := fun W => cValid hi W
    rcases h3 : validB lo with _ | _
    · rw [h3] at hV1
      have HE := hid (show timesB lo hi = false by unfold timesB; rw [h3]; simp [h1])
      clear h3
      go_enter Try.func19, Try.ntmps19
      go_wp2_with (go_at_call 59; refine (hV1 _).mono ?_; rintro x w' ⟨rfl, rfl⟩)
      go_ret
      exact ⟨ret_bool HE.out.symm, rfl⟩
    · rw [h3] at hV1
      rcases h4 : validB hi with _ | _
      · rw [h4] at hV2
        have HE := hid (show timesB lo hi = false by unfold timesB; rw [h4]; simp [h1])
        clear h3 h4
        go_enter Try.func19, Try.ntmps19
        go_wp2_with fail
        go_at_call 59
        refine (hV1 _).mono ?_
        rintro x w' ⟨rfl, rfl⟩
        go_wp2_with fail
        go_at_call 59
        refine (hV2 _).mono ?_
        rintro x w' ⟨rfl, rfl⟩
        go_wp2_with fail
        go_ret
        exact ⟨ret_bool HE.out.symm, rfl⟩
      · rw [h4] at hV2
        have HE := hid (show timesB lo hi = decide (lo ≤ hi) by unfold timesB; rw [h3, h4]; simp [h1])
        clear h3 h4
        go_enter Try.func19, Try.ntmps19
        go_wp2_with fail
        go_at_call 59
        refine (hV1 _).mono ?_
        rintro x w' ⟨rfl, rfl⟩
        go_wp2_with fail
        go_at_call 59
        refine (hV2 _).mono ?_
        rintro x w' ⟨rfl, rfl⟩
        go_wp2_with fail
        go_ret
        exact ⟨ret_bool HE.out.symm, rfl⟩

set_option maxHeartbeats 600000 in
set_option maxRecDepth 100000 in
theorem cFull {v : Value} {l : List C7} {w : World} (t : Int) (h : Sl w v l) (hl : l.length ≤ 1024) : Calls Try.prog 60 #[.agg #[.int .i64 t, v]] w fun e w' => e = .returned (.bool (fullB t l)) ∧ Below w.heap.size w w' := by
  obtain ⟨_, _, cap, a, hv, _⟩ := id h
  subst hv
  have hS := cSetRight (h.on ((Below.refl _ w).alloc (Nat.le_refl _) (boxV t (.slice a l.length cap)))) hl
  have hV := fun W => cValid t W
  rcases hv : validB t with _ | _
  · rw [hv] at hV
    have HE := hid (show fullB t l = false by unfold fullB; rw [hv]; rfl)
    clear hv
    go_enter Try.func60, Try.ntmps60
    go_wp2_with (first | (go_at_call 59; refine (hV _).mono ?_; rintro e w' ⟨rfl, rfl⟩) | (go_at_call 66; refine hS.mono ?_; rintro e w1 ⟨rfl, hB⟩; have HB := hid hB; clear hB))
    go_ret
    exact ⟨ret_bool HE.out.symm, ((Below.refl _ w).alloc (Nat.le_refl _) _)⟩
  · rw [hv] at hV
    have HE := hid (show fullB t l = setB l by unfold fullB; rw [hv]; rfl)
    clear hv
    go_enter Try.func60, Try.ntmps60
    go_wp2_with (first | (go_at_call 59; refine (hV _).mono ?_; rintro e w' ⟨rfl, rfl⟩) | (go_at_call 66; refine hS.mono ?_; rintro e w1 ⟨rfl, hB⟩; have HB := hid hB; clear hB))
    go_ret
    exact ⟨ret_bool HE.out.symm, ((Below.refl _ w).alloc (Nat.le_refl _) _).trans (HB.out.mono (by simp))⟩

set_option maxHeartbeats 600000 in
set_option maxRecDepth 100000 in
theorem cMust {v : Value} {l : List C7} {w : World} (t : Int) (is : Bool) (h : Sl w v l) (hl : l.length ≤ 1024) : Calls Try.prog 20 #[.agg #[.int .i64 t, v], .bool is] w fun e w' => e = .returned (.bool (mustB t l is)) ∧ Below w.heap.size w w' := by
  obtain ⟨_, _, cap, a, hv, _⟩ := id h
  subst hv
  have hF := fun W hB => cFull (w := W) t (h.on hB) hl
  have hN := fun W => cNone (a := a) (cap := cap) (l := l) (w := W) t rfl
  have HE := hid (show mustB t l is = ((is && fullB t l) || (!is && noneB t l)) from rfl)
  clear h
  have HW : Hid (Below w.heap.size w (w.alloc (boxV t (.slice a l.length cap)))) := hid ((Below.refl _ w).alloc (Nat.le_refl _) _)
  rcases is with _ | _
  · go_enter Try.func20, Try.ntmps20
    go_wp2_with (go_at_call 21; (
            refine (hN _).mono ?_
            rintro e w2 ⟨rfl, hB⟩
            have HB2 := hid hB
            clear hB))
    go_ret
    exact ⟨ret_bool (by rw [HE.out]; simp), by first | exact HB2.out | exact HW.out.trans (HB2.out.mono (by simp))⟩
  · go_enter Try.func20, Try.ntmps20
    go_wp2_with (go_at_call 60; (
            refine (hF _ (by first | exact HW.out | exact Below.refl _ _)).mono ?_
            rintro e w2 ⟨rfl, hB⟩
            have HB2 := hid hB
            clear hB))
    go_ret
    exact ⟨ret_bool (by rw [HE.out]; simp), by first | exact HB2.out | exact HW.out.trans (HB2.out.mono (by simp))⟩

set_option maxHeartbeats 1600000 in
set_option maxRecDepth 100000 in
theorem cSameVG {v v' : Value} {cs ds : List C7} {w : World} (t t' : Int) (h : Sl w v cs) (h' : Sl w v' ds) (hl : cs.length ≤ 100000) (hl' : ds.length ≤ 100000) : Calls Try.prog 61 #[.agg #[.int .i64 t, v], .agg #[.int .i64 t', v']] w fun e w' => e = .returned (.bool (decide (t = t') && sameB cs ds)) ∧ Below w.heap.size w w' := by
  have H := hid h
  have H' := hid h'
  obtain ⟨_, _, cap, a, rfl, _⟩ := h
  obtain ⟨_, _, cap', a', rfl, _⟩ := h'
  have HW : Hid (Below w.heap.size w ((w.alloc (boxV t (.slice a cs.length cap))).alloc (boxV t' (.slice a' ds.length cap')))) := hid (((Below.refl _ w).alloc (Nat.le_refl _) (boxV t (.slice a cs.length cap))).alloc (by simp) (boxV t' (.slice a' ds.length cap')))
  have hS := cSame (H.out.on HW.out) (H'.out.on HW.out) hl hl'
  by_cases ht : t = t'
  · subst ht
    go_enter Try.func61, Try.ntmps61
    go_wp2_with (go_at_call 86; (
      refine hS.mono ?_
      rintro e w1 ⟨rfl, hB⟩
      have HB := hid hB
      clear hB))
    go_ret
    exact ⟨ret_bool (by simp), HW.out.trans (HB.out.mono (by simp; omega))⟩
  · go_enter Try.func61, Try.ntmps61
    go_wp2_with fail
    go_ret
    exact ⟨ret_bool (by simp [ht]), HW.out⟩
end Go.Proofs.Ytmndjdaiailgmaa
