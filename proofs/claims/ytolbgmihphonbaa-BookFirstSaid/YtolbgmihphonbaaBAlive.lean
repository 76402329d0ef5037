/- The live question: its answer is fixed. -/
import Derived.Test.YtolbgmihphonbaaBSame
namespace Go.Proofs.Ytolbgmihphonbaa
set_option linter.unusedVariables false
open Go.RowKit
open Go.Lib (hid)

theorem BkTo.below {w w' : World} {B p : Nat} {va vb : Value} {bs ss bs1 ss1 : List Od} (h : BkTo w w' B p va vb bs1 ss1) (h0 : BkA w B p va vb bs ss) (hB : B ≤ w.heap.size) : Below B w w' := by
  obtain ⟨va1, vb1, h1, t1, f1, g1⟩ := h
  exact t1.below (fun k hk => (h0.nb k hk).1) hB
theorem BkTo.ex {w w' : World} {B p : Nat} {va vb : Value} {bs1 ss1 : List Od} (h : BkTo w w' B p va vb bs1 ss1) : ∃ va' vb', BkA w' B p va' vb' bs1 ss1 := by
  obtain ⟨va1, vb1, h1, _⟩ := h
  exact ⟨va1, vb1, h1⟩
theorem OwnF.over {w w' : World} {B C p : Nat} {va vb vf : Value} {bs ss bs1 ss1 : List Od} {fs : List Fl} (h : OwnF w C vf fs) (hK : BkA w B p va vb bs ss) (hT : BkTo w w' B p va vb bs1 ss1) : OwnF w' C vf fs := by
  obtain ⟨va1, vb1, h1, t1, f1, g1⟩ := hT
  refine OwnG.tch h t1 fun k hk hN => ?_
  rcases h.2 with ⟨rfl, _⟩ | ⟨g', cap', cur', rfl, _, hg', _⟩
  · cases hk
  · simp [Value.ownBlock] at hk
    subst hk
    have ty : ∀ {v : Value} {l : List Od}, OwnO w B v l → v.ownBlock ≠ some g' := fun {v} {l} h e => by
      rcases h.2 with ⟨rfl, _⟩ | ⟨g, cap, cur, rfl, _, hg, _⟩
      · cases e
      · simp [Value.ownBlock] at e
        subst e
        rw [hg] at hg'
        injection hg' with h3
        injection h3 with h4 h5
        exact absurd h5 (by decide)
    rcases hN with rfl | hN | hN
    · have h2 := hK.bk
      unfold Bk at h2
      rw [h2] at hg'
      injection hg' with h3
      injection h3 with h4 h5
      exact absurd h5 (by decide)
    · exact ty hK.ra hN
    · exact ty hK.rb hN
theorem alive1 {w : World} {B p : Nat} {va vb : Value} (h : BkA w B p va vb [] []) (hB : B ≤ w.heap.size) :
    Calls Try.prog 13 #[ptr p, .agg #[.int .i64 1, .int .i64 1, .int .i64 10, .int .i64 5]] w fun e w' => Told w w' B p va vb e 0 [] 5 [] [⟨1, 1, 10, 5⟩] := by
  have := cPlace_rest1 h ⟨by simp, by simp⟩ hB 1 10 5 (by decide) (by decide) (by decide) (fun x hx => by simp at hx) ([], 5) rfl (by decide) (by decide)
  simpa [withoutG, insG] using this
theorem alive2 {w : World} {B p : Nat} {va vb : Value} (h : BkA w B p va vb [] [⟨1, 1, 10, 5⟩]) (hB : B ≤ w.heap.size) :
    Calls Try.prog 13 #[ptr p, .agg #[.int .i64 2, .int .i64 1, .int .i64 9, .int .i64 5]] w fun e w' => Told w w' B p va vb e 0 [] 5 [] [⟨2, 1, 9, 5⟩, ⟨1, 1, 10, 5⟩] := by
  have := cPlace_rest1 h ⟨by simp, by simp⟩ hB 2 9 5 (by decide) (by decide) (by decide) (fun x hx => by simp at hx) ([], 5) rfl (by decide) (by decide)
  simpa [withoutG, insG, isW, betterB, List.findIdx_cons] using this
theorem alive3 {w : World} {B p : Nat} {va vb : Value} (h : BkA w B p va vb [] [⟨2, 1, 9, 5⟩, ⟨1, 1, 10, 5⟩]) (hB : B ≤ w.heap.size) :
    Calls Try.prog 13 #[ptr p, .agg #[.int .i64 3, .int .i64 0, .int .i64 10, .int .i64 7]] w fun e w' => Told w w' B p va vb e 0 [⟨2, 9, 5⟩, ⟨1, 10, 2⟩] 0 [] [⟨1, 1, 10, 3⟩] := by
  have := cPlace_all0 h ⟨by simp, by simp⟩ hB 3 10 7 (by decide) (by decide) (by decide) (fun x hx => by simp at hx; rcases hx with rfl | rfl <;> decide) ([⟨2, 9, 5⟩, ⟨1, 10, 2⟩], 0) (by decide) rfl
  simpa [withoutG] using this

set_option maxHeartbeats 6400000 in
set_option maxRecDepth 100000 in
theorem cAlive (w : World) : Calls Try.prog 5 #[] w fun e w' => e = .returned (.bool true) ∧ Below w.heap.size w w' := by
  go_enter Try.func5, Try.ntmps5
  go_wp2_with fail
  go_at_call 6
  refine (cNew w).mono ?_
  rintro e w1 ⟨rfl, hK1, hB1⟩
  obtain ⟨B, hBe⟩ : ∃ B, B = w.heap.size := ⟨_, rfl⟩
  rw [← hBe] at hK1 hB1 ⊢
  have HB1 := hid hB1
  have HK1 := hid hK1
  have HE := hid hBe
  clear hK1 hB1 hBe
  go_wp2_with fail
  go_at_call 13
  refine (alive1 HK1.out (by have := HB1.out.size; have := HE.out; omega)).mono ?_
  rintro e w2 ⟨f2, rfl, _, hT2⟩
  have HB2 := hid (HB1.out.trans (hT2.below HK1.out (by have := HB1.out.size; have := HE.out; omega)))
  obtain ⟨va2, vb2, hK2⟩ := hT2.ex
  have HK2 := hid hK2
  clear hT2 hK2
  go_wp2_with fail
  go_at_call 13
  refine (alive2 HK2.out (by have := HB2.out.size; have := HE.out; omega)).mono ?_
  rintro e w3 ⟨f3, rfl, _, hT3⟩
  have HB3 := hid (HB2.out.trans (hT3.below HK2.out (by have := HB2.out.size; have := HE.out; omega)))
  obtain ⟨va3, vb3, hK3⟩ := hT3.ex
  have HK3 := hid hK3
  clear hT3 hK3
  go_wp2_with fail
  go_at_call 13
  refine (alive3 HK3.out (by have := HB3.out.size; have := HE.out; omega)).mono ?_
  rintro e w4 ⟨f4, rfl, hOF4, hT4⟩
  have HB4 := hid (HB3.out.trans (hT4.below HK3.out (by have := HB3.out.size; have := HE.out; omega)))
  obtain ⟨va4, vb4, hK4⟩ := hT4.ex
  have HK4 := hid hK4
  obtain ⟨a4, c4, n4, rfl, hn4⟩ := hOF4.asSlice
  have HOF4 := hid hOF4
  clear hT4 hK4 hOF4 hn4
  go_wp2_with fail
  generalize hW5 : ((w4.alloc (.cells #[.int .i64 0, .slice a4 n4 c4, .int .i64 0] 37)).alloc (.cells #[.int .i64 2, .int .i64 9, .int .i64 5, .int .i64 1, .int .i64 10, .int .i64 2] 46)).alloc (.cells #[.int .i64 0, .slice (some ⟨w4.heap.size + 1, 0, none⟩) 2 2, .int .i64 0] 37) = W5
  have hb5 : Below w4.heap.size w4 W5 := by rw [← hW5]; exact (((Below.refl _ w4).alloc (Nat.le_refl _) _).alloc (by simp) _).alloc (by simp; omega) _
  have s5 : W5.heap.size = w4.heap.size + 3 := by rw [← hW5]; simp
  have q2 : W5.heap[w4.heap.size]? = some (.cells #[.int .i64 0, .slice a4 n4 c4, .int .i64 0] 37 (0, 0)) := by rw [← hW5]; exact obAlloc (obAlloc (heap_alloc_new w4 _))
  have q6 : W5.heap[w4.heap.size + 1]? = some (.cells #[.int .i64 2, .int .i64 9, .int .i64 5, .int .i64 1, .int .i64 10, .int .i64 2] 46 (0, 0)) := by
    rw [← hW5, show w4.heap.size + 1 = (w4.alloc (.cells #[.int .i64 0, .slice a4 n4 c4, .int .i64 0] 37)).heap.size by simp]; exact obAlloc (heap_alloc_new _ _)
  have q3 : W5.heap[w4.heap.size + 1 + 1]? = some (.cells #[.int .i64 0, .slice (some ⟨w4.heap.size + 1, 0, none⟩) 2 2, .int .i64 0] 37 (0, 0)) := by
    rw [← hW5, show w4.heap.size + 1 + 1 = ((w4.alloc (.cells #[.int .i64 0, .slice a4 n4 c4, .int .i64 0] 37)).alloc (.cells #[.int .i64 2, .int .i64 9, .int .i64 5, .int .i64 1, .int .i64 10, .int .i64 2] 46)).heap.size by simp]; exact heap_alloc_new _ _
  have HQ := hid (And.intro hb5 (And.intro s5 (And.intro q2 (And.intro q6 q3))))
  clear hW5 hb5 s5 q2 q6 q3
  go_at_call 15
  refine (cAmend_zero (HK4.out.on HQ.out.1) ⟨by simp, by simp⟩ 1 0 (by decide)).mono ?_
  rintro e w6 ⟨f6, rfl, hOF6, hT6⟩
  obtain ⟨a6, c6, n6, rfl, hn6⟩ := hOF6.asSlice
  have hs6 : W5.heap.size ≤ w6.heap.size := by obtain ⟨_, _, _, t, _⟩ := hT6; exact t.size
  have m2 := (hT6.box HK4.out (Nat.le_refl _) (by have := HQ.out.2.1; omega)).trans HQ.out.2.2.1
  have m6 := (hT6.box HK4.out (Nat.le_succ _) (by have := HQ.out.2.1; omega)).trans HQ.out.2.2.2.1
  have m3 := (hT6.box HK4.out (N := w4.heap.size + 1 + 1) (by omega) (by have := HQ.out.2.1; omega)).trans HQ.out.2.2.2.2
  have HF4 := hid (OwnF.over (HOF4.out.on HQ.out.1) (HK4.out.on HQ.out.1) hT6)
  have HB6 : Hid (Below B w w6) := hid ((HB4.out.trans (HQ.out.1.mono (by have := HB4.out.size; have := HE.out; omega))).trans (hT6.below (HK4.out.on HQ.out.1) (by have := HB4.out.size; have := HE.out; have := HQ.out.1.size; omega)))
  obtain ⟨va6, vb6, hK6⟩ := hT6.ex
  have HK6 := hid hK6
  have hwant : OwnF w6 (w4.heap.size + 1) (.slice (some ⟨w4.heap.size + 1, 0, none⟩) 2 2) [⟨2, 9, 5⟩, ⟨1, 10, 2⟩] := ⟨rfl, .inr ⟨w4.heap.size + 1, 2, _, rfl, Nat.le_refl _, m6, Nat.le_refl _, by unfold maxLen; omega, rfl, rfl⟩⟩
  have HWN := hid hwant
  have k0 := cellAt' m2 0; have k1 := cellAt' m2 1; have k2 := cellAt' m2 2
  have j0 := cellAt' m3 0; have j1 := cellAt' m3 1; have j2 := cellAt' m3 2
  simp at k0 k1 k2 j0 j1 j2
  have z2 := (Array.getElem?_eq_some_iff.1 m2).1
  have z3 := (Array.getElem?_eq_some_iff.1 m3).1
  have hal : Below w6.heap.size w6 (w6.alloc (.cells #[.int .i64 7, .slice a6 n6 c6, .int .i64 0] 37)) := (Below.refl _ w6).alloc (Nat.le_refl _) _
  have HSM := hid (rSame (HF4.out.on hal) (HWN.out.on hal) (by simp) 0 0)
  have HK7 : Hid (∀ W, Below w6.heap.size w6 W → Calls Try.prog 12 #[ptr B, .int .i64 1] W fun e w' => ∃ r, e = .returned r ∧ OwnO w' W.heap.size r [⟨1, 1, 10, 3⟩] ∧ Below W.heap.size W w') := hid fun W hW => cOrders1 (HK6.out.on hW) ⟨by simp, by simp⟩
  have HAL := hid hal
  clear hOF6 hT6 hn6 m2 m6 m3 hK6 hwant hal hs6
  go_wp2_with fail
  go_at_call 16
  refine HSM.out.mono ?_
  rintro e w7 ⟨rfl, hB7⟩
  have hb7 := HAL.out.trans (hB7.mono (by simp))
  have hq7 := obOn (heap_alloc_new w6 (.cells #[.int .i64 7, .slice a6 n6 c6, .int .i64 0] 37)) (hB7.mono (B' := w6.heap.size + 1) (by simp)) (by omega)
  have y0 := cellAt' hq7 0
  simp at y0
  have z7 := (Array.getElem?_eq_some_iff.1 hq7).1
  have HB7 := hid hb7
  clear hB7 hb7 hq7
  go_wp2_with fail
  go_at_call 12
  refine (HK7.out _ HB7.out).mono ?_
  rintro e w8 ⟨v8, rfl, hO8, hB8⟩
  obtain ⟨g8, cap8, n8, rfl, hn8, _⟩ := hO8.first
  simp at hn8
  subst hn8
  have HB8 := hid (HB7.out.trans (hB8.mono HB7.out.size))
  clear hO8 hB8
  go_wp2_with fail
  go_at_call 12
  refine (HK7.out _ HB8.out).mono ?_
  rintro e w9 ⟨v9, rfl, hO9, hB9⟩
  obtain ⟨g9, cap9, n9, rfl, hn9, hg9, x0, x1, x2, x3⟩ := hO9.first
  simp at hn9 x3
  subst hn9
  have HB9 := hid (HB8.out.trans (hB9.mono HB8.out.size))
  clear hO9 hB9
  go_wp2_with fail
  go_ret
  exact ⟨rfl, HE.out ▸ HB6.out.trans (HB9.out.mono (by have := HB6.out.size; have := HE.out; omega))⟩
end Go.Proofs.Ytolbgmihphonbaa
