/- The contract of the document's One: whether a command may be, the same plain function as mayBe's; and of Conflict. -/
import Derived.Test.YtdgllpfccdbdnaaMayBe
import Derived.Deep.Light
namespace Go.Proofs.Ytdgllpfccdbdnaa
open Go.RowKit

theorem boxed (w : World) (xs : Array Value) (T : TypeId) : Below w.heap.size w (w.alloc (.cells xs T)) := (Below.refl _ _).alloc (Nat.le_refl _) _

set_option maxRecDepth 100000 in
theorem rOne_pre (i k s t d p q : Int) (h : namedB i = false ∨ withinBC s 3 = false) (w : World) : Calls Try.prog 23 #[cmV i k s t d p q] w fun e w' => e = .returned (.bool false) ∧ Below w.heap.size w w' := by
  rcases hn : namedB i with _ | _
  · go_enter Try.func23, Try.ntmps23
    go_wp2_with (first | (go_at_call 36; refine (rNamed _ _).mono ?_; rintro e w' ⟨rfl, rfl⟩) | (go_at_call 37; refine (rIn _ _).mono ?_; rintro e w' ⟨rfl, rfl⟩))
    go_ret
    exact ⟨rfl, boxed _ _ _⟩
  · have hs : withinBC s 3 = false := by simpa [hn] using h
    rw [within_false] at hs
    clear h
    by_cases h0 : s < 0
    · go_enter Try.func23, Try.ntmps23
      go_wp2_with (first | (go_at_call 36; refine (rNamed _ _).mono ?_; rintro e w' ⟨rfl, rfl⟩) | (go_at_call 37; refine (rIn _ _).mono ?_; rintro e w' ⟨rfl, rfl⟩))
      go_ret
      exact ⟨rfl, boxed _ _ _⟩
    · have h1 : 3 < s := by omega
      go_enter Try.func23, Try.ntmps23
      go_wp2_with (first | (go_at_call 36; refine (rNamed _ _).mono ?_; rintro e w' ⟨rfl, rfl⟩) | (go_at_call 37; refine (rIn _ _).mono ?_; rintro e w' ⟨rfl, rfl⟩))
      go_ret
      exact ⟨rfl, boxed _ _ _⟩

/-- What a kind asks of the other parts, in the document's order of words. -/
def restB (k t d p q : Int) : Bool :=
  if k = 0 then decide (t = 0) && (decide (d = 0) || decide (d = 1)) && withinBC p 1048576 && withinBC q 1048576
  else if k = 1 then namedB t && decide (d = 0) && decide (p = 0) && decide (q = 0)
  else if k = 2 then namedB t && decide (d = 0) && decide (p = 0) && withinBC q 1048576
  else false

set_option maxRecDepth 100000 in
theorem rOne_k0 (i s t d p q : Int) (hn : namedB i = true) (h0 : 0 ≤ s) (h1 : s ≤ 3) (w : World) : Calls Try.prog 23 #[cmV i 0 s t d p q] w fun e w' => e = .returned (.bool (restB 0 t d p q)) ∧ Below w.heap.size w w' := by
  go_enter Try.func23, Try.ntmps23
  go_wp2_with (first | (go_at_call 36; refine (rNamed _ _).mono ?_; rintro e w' ⟨rfl, rfl⟩) | (go_at_call 37; refine (rIn _ _).mono ?_; rintro e w' ⟨rfl, rfl⟩))
  all_goals
    go_ret
    refine ⟨ret_boolC ?_, boxed _ _ _⟩
    go_light
    first | (simp_all [restB]; done) | (simp_all [restB]; rw [Bool.eq_iff_iff]; simp; done) | (simp_all [restB]; omega)

set_option maxRecDepth 100000 in
theorem rOne_k1 (i s t d p q : Int) (hn : namedB i = true) (h0 : 0 ≤ s) (h1 : s ≤ 3) (w : World) : Calls Try.prog 23 #[cmV i 1 s t d p q] w fun e w' => e = .returned (.bool (restB 1 t d p q)) ∧ Below w.heap.size w w' := by
  go_enter Try.func23, Try.ntmps23
  go_wp2_with (first | (go_at_call 36; refine (rNamed _ _).mono ?_; rintro e w' ⟨rfl, rfl⟩) | (go_at_call 37; refine (rIn _ _).mono ?_; rintro e w' ⟨rfl, rfl⟩))
  all_goals
    go_ret
    refine ⟨ret_boolC ?_, boxed _ _ _⟩
    go_light
    first | (simp_all [restB]; done) | (simp_all [restB]; rw [Bool.eq_iff_iff]; simp; done) | (simp_all [restB]; omega)

set_option maxRecDepth 100000 in
theorem rOne_k2 (i s t d p q : Int) (hn : namedB i = true) (h0 : 0 ≤ s) (h1 : s ≤ 3) (w : World) : Calls Try.prog 23 #[cmV i 2 s t d p q] w fun e w' => e = .returned (.bool (restB 2 t d p q)) ∧ Below w.heap.size w w' := by
  go_enter Try.func23, Try.ntmps23
  go_wp2_with (first | (go_at_call 36; refine (rNamed _ _).mono ?_; rintro e w' ⟨rfl, rfl⟩) | (go_at_call 37; refine (rIn _ _).mono ?_; rintro e w' ⟨rfl, rfl⟩))
  all_goals
    go_ret
    refine ⟨ret_boolC ?_, boxed _ _ _⟩
    go_light
    first | (simp_all [restB]; done) | (simp_all [restB]; rw [Bool.eq_iff_iff]; simp; done) | (simp_all [restB]; omega)

set_option maxRecDepth 100000 in
theorem rOne_no (i k s t d p q : Int) (k0 : k ≠ 0) (k1 : k ≠ 1) (k2 : k ≠ 2) (hn : namedB i = true) (h0 : 0 ≤ s) (h1 : s ≤ 3) (w : World) : Calls Try.prog 23 #[cmV i k s t d p q] w fun e w' => e = .returned (.bool (restB k t d p q)) ∧ Below w.heap.size w w' := by
  go_enter Try.func23, Try.ntmps23
  go_wp2_with (first | (go_at_call 36; refine (rNamed _ _).mono ?_; rintro e w' ⟨rfl, rfl⟩) | (go_at_call 37; refine (rIn _ _).mono ?_; rintro e w' ⟨rfl, rfl⟩))
  all_goals
    go_ret
    refine ⟨ret_boolC ?_, boxed _ _ _⟩
    go_light
    first | (simp_all [restB]; done) | (simp_all [restB]; rw [Bool.eq_iff_iff]; simp; done) | (simp_all [restB]; omega)

theorem zero_within (x : Int) : withinBC x 0 = decide (x = 0) := by
  unfold withinBC; congr 1; apply propext; omega
theorem one_within (x : Int) : withinBC x 1 = (decide (x = 0) || decide (x = 1)) := by
  unfold withinBC; rw [Bool.eq_iff_iff]; simp; omega
theorem rOne (i k s t d p q : Int) (w : World) : Calls Try.prog 23 #[cmV i k s t d p q] w fun e w' => e = .returned (.bool (oneB i k s t d p q)) ∧ Below w.heap.size w w' := by
  rcases hn : namedB i with _ | _
  · simpa [oneB, hn] using rOne_pre i k s t d p q (Or.inl hn) w
  rcases hs : withinBC s 3 with _ | _
  · simpa [oneB, hs] using rOne_pre i k s t d p q (Or.inr hs) w
  have hb : oneB i k s t d p q = restB k t d p q := by
    unfold oneB restB; rw [hn, hs]; simp only [zero_within, one_within, Bool.true_and]; rfl
  obtain ⟨h0, h1⟩ := within_true.mp hs
  rw [hb]
  by_cases k0 : k = 0
  · subst k0; exact rOne_k0 i s t d p q hn h0 h1 w
  by_cases k1 : k = 1
  · subst k1; exact rOne_k1 i s t d p q hn h0 h1 w
  by_cases k2 : k = 2
  · subst k2; exact rOne_k2 i s t d p q hn h0 h1 w
  exact rOne_no i k s t d p q k0 k1 k2 hn h0 h1 w
end Go.Proofs.Ytdgllpfccdbdnaa
