/- Entries: the raw cells of one, and what the document asks of it; Valid, ballot, Full, None, must; SameValue of any two values. -/
import Derived.Test.YtmndjdaiailgmaaSameV
import Derived.Test.YtmndjdaiailgmaaBox
import Derived.Test.YtmndjdaiailgmaaRise
namespace Go.Proofs.Ytmndjdaiailgmaa
set_option linter.unusedVariables false
open Go.RowKit
open Go.Lib (hid)

def validB (t : Int) : Bool := decide (16 ≤ t ∧ t < 1048576 ∧ t % 16 ≤ 8)
theorem rValid (t : Int) (w : World) : Calls Try.prog 43 #[.int .i64 t] w fun e w' => e = .returned (.bool (validB t)) ∧ w = w' := by
  by_cases h0 : 16 ≤ t
  · by_cases h1 : t < 1048576
    · by_cases h2 : t % 16 ≤ 8
      · go_enter Try.func43, Try.ntmps43
        go_wp2
        go_ret
        exact ⟨ret_bool (by unfold validB; symm; simp; omega), rfl⟩
      · go_enter Try.func43, Try.ntmps43
        go_wp2
        go_ret
        exact ⟨ret_bool (by unfold validB; symm; simp; omega), rfl⟩
    · go_enter Try.func43, Try.ntmps43
      go_wp2
      go_ret
      exact ⟨ret_bool (by unfold validB; symm; simp; omega), rfl⟩
  · go_enter Try.func43, Try.ntmps43
    go_wp2
    go_ret
    exact ⟨ret_bool (by unfold validB; symm; simp; omega), rfl⟩
theorem rBallot (t : Int) (w : World) : Calls Try.prog 45 #[.int .i64 t] w fun e w' => e = .returned (.bool (withinB t 1048576)) ∧ w = w' := by
  by_cases h0 : 0 ≤ t
  · go_enter Try.func45, Try.ntmps45
    go_wp2
    go_ret
    exact ⟨ret_bool (by unfold withinB; symm; simp; omega), rfl⟩
  · go_enter Try.func45, Try.ntmps45
    go_wp2
    go_ret
    exact ⟨ret_bool (by unfold withinB; symm; simp; omega), rfl⟩

def fullB (t : Int) (l : List C7) : Bool := validB t && setB l
def noneB (t : Int) (l : List C7) : Bool := decide (t = 0) && decide (l.length = 0)
def mustB (t : Int) (l : List C7) (is : Bool) : Bool := (is && fullB t l) || (!is && noneB t l)
abbrev boxV (t : Int) (v : Value) : Obj := .cells #[.int .i64 t, v] 28

set_option maxHeartbeats 600000 in
set_option maxRecDepth 100000 in
theorem rFull {v : Value} {l : List C7} {w : World} (t : Int) (h : Sl w v l) (hl : l.length ≤ 1024) : Calls Try.prog 63 #[.agg #[.int .i64 t, v]] w fun e w' => e = .returned (.bool (fullB t l)) ∧ Below w.heap.size w w' := by
  obtain ⟨_, _, cap, a, hv, _⟩ := id h
  subst hv
  have hS := rSetRight (h.on ((Below.refl _ w).alloc (Nat.le_refl _) (boxV t (.slice a l.length cap)))) hl
  have hV := fun W => rValid t W
  rcases hv : validB t with _ | _
  · rw [hv] at hV
    have HE := hid (show fullB t l = false by unfold fullB; rw [hv]; rfl)
    clear hv
    go_enter Try.func63, Try.ntmps63
    go_wp2_with (first | (go_at_call 43; refine (hV _).mono ?_; rintro e w' ⟨rfl, rfl⟩) | (go_at_call 77; refine hS.mono ?_; rintro e w1 ⟨rfl, hB⟩; have HB := hid hB; clear hB))
    go_ret
    exact ⟨ret_bool HE.out.symm, ((Below.refl _ w).alloc (Nat.le_refl _) _).trans (HB.out.mono (by simp))⟩
  · rw [hv] at hV
    have HE := hid (show fullB t l = setB l by unfold fullB; rw [hv]; rfl)
    clear hv
    go_enter Try.func63, Try.ntmps63
    go_wp2_with (first | (go_at_call 43; refine (hV _).mono ?_; rintro e w' ⟨rfl, rfl⟩) | (go_at_call 77; refine hS.mono ?_; rintro e w1 ⟨rfl, hB⟩; have HB := hid hB; clear hB))
    go_ret
    exact ⟨ret_bool HE.out.symm, ((Below.refl _ w).alloc (Nat.le_refl _) _).trans (HB.out.mono (by simp))⟩

set_option maxHeartbeats 600000 in
set_option maxRecDepth 100000 in
theorem rNone {a : Option Addr} {n cap : Nat} {l : List C7} {w : World} (t : Int) (hn : n = l.length) : Calls Try.prog 64 #[.agg #[.int .i64 t, .slice a n cap]] w fun e w' => e = .returned (.bool (noneB t l)) ∧ Below w.heap.size w w' := by
  have HN := hid (show noneB t l = (decide (t = 0) && decide (n = 0)) by unfold noneB; rw [hn])
  clear hn
  by_cases ht : t = 0
  · subst ht
    go_enter Try.func64, Try.ntmps64
    go_wp2
    go_ret
    exact ⟨ret_bool (by rw [HN.out, Bool.eq_iff_iff]; simp), (Below.refl _ w).alloc (Nat.le_refl _) _⟩
  · go_enter Try.func64, Try.ntmps64
    go_wp2
    go_ret
    exact ⟨ret_bool (by rw [HN.out]; simp [ht]), (Below.refl _ w).alloc (Nat.le_refl _) _⟩

set_option maxHeartbeats 600000 in
set_option maxRecDepth 100000 in
theorem rMust {v : Value} {l : List C7} {w : World} (t : Int) (is : Bool) (h : Sl w v l) (hl : l.length ≤ 1024) : Calls Try.prog 44 #[.agg #[.int .i64 t, v], .bool is] w fun e w' => e = .returned (.bool (mustB t l is)) ∧ Below w.heap.size w w' := by
  have H := hid h
  obtain ⟨_, _, cap, a, hv, _⟩ := id h
  subst hv
  have hF := rFull t (h.on ((Below.refl _ w).alloc (Nat.le_refl _) (boxV t (.slice a l.length cap)))) hl
  have hN := fun W => rNone (a := a) (cap := cap) (l := l) (w := W) t rfl
  have HE := hid (show mustB t l is = ((is && fullB t l) || (!is && noneB t l)) from rfl)
  clear h
  rcases is with _ | _
  all_goals (
    go_enter Try.func44, Try.ntmps44
    go_wp2_with (first
      | (go_at_call 63; (
          refine hF.mono ?_
          rintro e w1 ⟨rfl, hB⟩
          obtain ⟨hcell, hz, hBw⟩ := box_cells hB
          have k0 : w1.cell? ⟨w.heap.size, 0, none⟩ = some (.int .i64 t) := hcell 0
          have k1 : w1.cell? ⟨w.heap.size, 1, none⟩ = some (.slice a l.length cap) := hcell 1
          have HB := hid hBw
          clear hB hcell hBw))
      | (go_at_call 64; (
          refine (hN _).mono ?_
          rintro e w2 ⟨rfl, hB⟩
          have HB2 := hid (HB.out.trans (hB.mono HB.out.size))
          clear hB)))
    all_goals (
      go_ret
      exact ⟨ret_bool (by rw [HE.out]; simp_all), HB2.out⟩))

set_option maxHeartbeats 1600000 in
set_option maxRecDepth 100000 in
theorem rSameVG {v v' : Value} {cs ds : List C7} {w : World} (t t' : Int) (h : Sl w v cs) (h' : Sl w v' ds) (hl : cs.length ≤ 100000) (hl' : ds.length ≤ 100000) : Calls Try.prog 36 #[.agg #[.int .i64 t, v], .agg #[.int .i64 t', v']] w fun e w' => e = .returned (.bool (decide (t = t') && sameB cs ds)) ∧ Below w.heap.size w w' := by
  have H := hid h
  have H' := hid h'
  obtain ⟨_, _, cap, a, rfl, _⟩ := h
  obtain ⟨_, _, cap', a', rfl, _⟩ := h'
  have hS := rSame (H.out.on (((Below.refl _ w).alloc (Nat.le_refl _) (boxV t (.slice a cs.length cap))).alloc (by simp) (boxV t' (.slice a' ds.length cap')))) (H'.out.on (((Below.refl _ w).alloc (Nat.le_refl _) (boxV t (.slice a cs.length cap))).alloc (by simp) (boxV t' (.slice a' ds.length cap')))) hl hl'
  have hT : (t = t' ∧ t' = t) ∨ ¬ t = t' := by omega
  rcases hT with ⟨ht, _⟩ | ht
  · subst ht
    go_enter Try.func36, Try.ntmps36
    go_wp2_with (go_at_call 65; (
      refine hS.mono ?_
      rintro e w1 ⟨rfl, hB⟩
      have hs1 := hB.size
      have k0 : w1.cell? ⟨w.heap.size, 0, none⟩ = some (.int .i64 t) := (hB.cell (p := ⟨w.heap.size, 0, none⟩) (by simp; omega)).trans (by simp [go_sem])
      have k1 : w1.cell? ⟨w.heap.size + 1, 0, none⟩ = some (.int .i64 t) := (hB.cell (p := ⟨w.heap.size + 1, 0, none⟩) (by simp)).trans (by simp [go_sem])
      have HB := hid hB
      clear hB))
    go_ret
    exact ⟨ret_bool (by simp), (((Below.refl _ w).alloc (Nat.le_refl _) _).alloc (by simp) _).trans (HB.out.mono (by simp; omega))⟩
  all_goals (
    go_enter Try.func36, Try.ntmps36
    go_wp2_with (go_at_call 65; (
      refine hS.mono ?_
      rintro e w1 ⟨rfl, hB⟩
      have hs1 := hB.size
      have k0 : w1.cell? ⟨w.heap.size, 0, none⟩ = some (.int .i64 t) := (hB.cell (p := ⟨w.heap.size, 0, none⟩) (by simp; omega)).trans (by simp [go_sem])
      have k1 : w1.cell? ⟨w.heap.size + 1, 0, none⟩ = some (.int .i64 t') := (hB.cell (p := ⟨w.heap.size + 1, 0, none⟩) (by simp)).trans (by simp [go_sem])
      have HB := hid hB
      clear hB))
    go_ret
    exact ⟨ret_bool (by simp [ht]), (((Below.refl _ w).alloc (Nat.le_refl _) _).alloc (by simp) _).trans (HB.out.mono (by simp; omega))⟩)
end Go.Proofs.Ytmndjdaiailgmaa
