/- The law's step: one act, on a book that may be. -/
import Derived.Test.YtolbgmihphonbaaBCross
namespace Go.Proofs.Ytolbgmihphonbaa
set_option linter.unusedVariables false
open Go.RowKit
open Go.Lib (hid)

/-- An act of the law's. -/
structure Ak where
  k : Nat
  i : Int
  s : Int
  p : Int
  q : Int
abbrev Ak.cells (a : Ak) : List Value := [.int .u8 a.k, .int .i64 a.i, .int .i64 a.s, .int .i64 a.p, .int .i64 a.q]
abbrev Ak.v (a : Ak) : Value := .agg #[.int .u8 a.k, .int .i64 a.i, .int .i64 a.s, .int .i64 a.p, .int .i64 a.q]
/-- What an act tells, and leaves. -/
def StepR (bs ss : List Od) (a : Ak) (err : Int) (fs : List Fl) (left : Int) (bs' ss' : List Od) : Prop :=
  (a.k % 6 < 4 ∧ PlaceR bs ss ⟨a.i, a.s, a.p, a.q⟩ err fs left bs' ss') ∨ (a.k % 6 = 4 ∧ CancelR bs ss a.i err fs left bs' ss') ∨ (a.k % 6 = 5 ∧ AmendR bs ss a.i a.q err fs left bs' ss')
theorem StepR.fine {bs ss : List Od} {a : Ak} {err : Int} {fs : List Fl} {left : Int} {bs' ss' : List Od} (h : StepR bs ss a err fs left bs' ss') : FineB bs' ss' := by
  rcases h with ⟨_, h, _⟩ | ⟨_, h, _⟩ | ⟨_, h, _⟩ <;> exact h
/-- Two boxes with which step begins. -/
theorem step_boxes (w : World) (a : Ak) : Below w.heap.size w ((w.alloc (.cells #[.int .u8 a.k, .int .i64 a.i, .int .i64 a.s, .int .i64 a.p, .int .i64 a.q] 33)).alloc box3) ∧ ((w.alloc (.cells #[.int .u8 a.k, .int .i64 a.i, .int .i64 a.s, .int .i64 a.p, .int .i64 a.q] 33)).alloc box3).heap[w.heap.size + 1]? = some box3 ∧ ((w.alloc (.cells #[.int .u8 a.k, .int .i64 a.i, .int .i64 a.s, .int .i64 a.p, .int .i64 a.q] 33)).alloc box3).heap.size = w.heap.size + 2 := by
  refine ⟨((Below.refl _ w).alloc (Nat.le_refl _) _).alloc (by simp) _, ?_, by simp⟩
  rw [show w.heap.size + 1 = (w.alloc (.cells #[.int .u8 a.k, .int .i64 a.i, .int .i64 a.s, .int .i64 a.p, .int .i64 a.q] 33)).heap.size by simp]; exact heap_alloc_new _ _

set_option maxHeartbeats 3200000 in
set_option maxRecDepth 100000 in
theorem cStep_place {w : World} {B p : Nat} {va vb : Value} {bs ss : List Od} (h : BkA w B p va vb bs ss) (hF : FineB bs ss) (hB : B ≤ w.heap.size) (a : Ak) (hk : a.k % 6 < 4) (hk8 : a.k < 256) :
    Calls Try.prog 9 #[ptr p, a.v] w fun e w' => ActTo w w' B p va vb e (StepR bs ss a) := by
  obtain ⟨hb, hbox, hsz⟩ := step_boxes w a
  have HP := hid (cPlace (h.on hb) hF (by omega) a.i a.s a.p a.q)
  have HH := hid h
  have HBX := hid (And.intro hb (And.intro hbox hsz))
  have HK := hid hk
  obtain ⟨m, hm⟩ : ∃ m, m = (a.k : Int).tmod 6 := ⟨_, rfl⟩
  have hm2 : m = ((a.k % 6 : Nat) : Int) := by rw [hm, Int.tmod_eq_emod_of_nonneg (by omega)]; omega
  have hm4 : ¬ m = 4 := by omega
  have hm5 : ¬ m = 5 := by omega
  have hm1 : (a.k : Int).tmod 6 = m := hm.symm
  clear hm hm2
  clear h hF hB hb hbox hsz hk
  go_enter Try.func9, Try.ntmps9
  go_wp2_with (go_at_call 13; refine HP.out.mono ?_; rintro e w2 ⟨err, fs, left, bs', ss', ⟨f, rfl, hOF, hT⟩, hR⟩; obtain ⟨af, capf, nf, rfl, hnf⟩ := hOF.asSlice; have hj := box3_at' ((hT.box HH.out (Nat.le_succ _) (by have := HBX.out.2.2; omega)).trans HBX.out.2.1); obtain ⟨⟨k0, k1, k2⟩, fz, hz⟩ := hj; have HT := hid (BkTo.n HBX.out.1 hT); have HOF := hid hOF; have HR := hid hR; clear hOF hT hnf hR)
  refine bodyPost_ret (v := rpV err (.slice af nf capf) left) (by simp [results, Try.results9, go_sem, k0, k1, k2]) rfl (ActTo.mk (err := err) (fs := fs) (left := left) (bs' := bs') (ss' := ss') ⟨.slice af nf capf, rfl, ?_, ?_⟩ (.inl ⟨HK.out, HR.out⟩))
  · have hb2 : ∀ k, (Value.slice af nf capf).ownBlock = some k → k ≠ w.heap.size + 1 := fun k hk e => by have := (HOF.out.lt k hk).1; have := HBX.out.2.2; omega
    exact OwnG.mono (((HOF.out.tch (S := fun k => k = w.heap.size + 1) (Tch.set _ _ _ rfl) hb2).tch (S := fun k => k = w.heap.size + 1) (Tch.set _ _ _ rfl) hb2).tch (S := fun k => k = w.heap.size + 1) (Tch.set _ _ _ rfl) hb2) (by have := HBX.out.2.2; omega)
  · have h2 := HBX.out.2.2
    exact BkN.to (((HT.out.set HH.out (Nat.le_succ _) (by omega) _ _).set HH.out (Nat.le_succ _) (by omega) _ _).set HH.out (Nat.le_succ _) (by omega) _ _) (by omega)

set_option maxHeartbeats 3200000 in
set_option maxRecDepth 100000 in
theorem cStep_cancel {w : World} {B p : Nat} {va vb : Value} {bs ss : List Od} (h : BkA w B p va vb bs ss) (hF : FineB bs ss) (hB : B ≤ w.heap.size) (a : Ak) (hk : a.k % 6 = 4) (hk8 : a.k < 256) :
    Calls Try.prog 9 #[ptr p, a.v] w fun e w' => ActTo w w' B p va vb e (StepR bs ss a) := by
  obtain ⟨hb, hbox, hsz⟩ := step_boxes w a
  have HP := hid (cCancel (h.on hb) hF a.i)
  have HH := hid h
  have HBX := hid (And.intro hb (And.intro hbox hsz))
  have HK := hid hk
  have hm1 : (a.k : Int).tmod 6 = 4 := by rw [Int.tmod_eq_emod_of_nonneg (by omega)]; omega
  clear h hF hB hb hbox hsz hk
  go_enter Try.func9, Try.ntmps9
  go_wp2_with (go_at_call 18; refine HP.out.mono ?_; rintro e w2 ⟨err, fs, left, bs', ss', ⟨f, rfl, hOF, hT⟩, hR⟩; obtain ⟨af, capf, nf, rfl, hnf⟩ := hOF.asSlice; have hj := box3_at' ((hT.box HH.out (Nat.le_succ _) (by have := HBX.out.2.2; omega)).trans HBX.out.2.1); obtain ⟨⟨k0, k1, k2⟩, fz, hz⟩ := hj; have HT := hid (BkTo.n HBX.out.1 hT); have HOF := hid hOF; have HR := hid hR; clear hOF hT hnf hR)
  refine bodyPost_ret (v := rpV err (.slice af nf capf) left) (by simp [results, Try.results9, go_sem, k0, k1, k2]) rfl (ActTo.mk (err := err) (fs := fs) (left := left) (bs' := bs') (ss' := ss') ⟨.slice af nf capf, rfl, ?_, ?_⟩ (.inr (.inl ⟨HK.out, HR.out⟩)))
  · have hb2 : ∀ k, (Value.slice af nf capf).ownBlock = some k → k ≠ w.heap.size + 1 := fun k hk e => by have := (HOF.out.lt k hk).1; have := HBX.out.2.2; omega
    exact OwnG.mono (((HOF.out.tch (S := fun k => k = w.heap.size + 1) (Tch.set _ _ _ rfl) hb2).tch (S := fun k => k = w.heap.size + 1) (Tch.set _ _ _ rfl) hb2).tch (S := fun k => k = w.heap.size + 1) (Tch.set _ _ _ rfl) hb2) (by have := HBX.out.2.2; omega)
  · have h2 := HBX.out.2.2
    exact BkN.to (((HT.out.set HH.out (Nat.le_succ _) (by omega) _ _).set HH.out (Nat.le_succ _) (by omega) _ _).set HH.out (Nat.le_succ _) (by omega) _ _) (by omega)

set_option maxHeartbeats 3200000 in
set_option maxRecDepth 100000 in
theorem cStep_amend {w : World} {B p : Nat} {va vb : Value} {bs ss : List Od} (h : BkA w B p va vb bs ss) (hF : FineB bs ss) (hB : B ≤ w.heap.size) (a : Ak) (hk : a.k % 6 = 5) (hk8 : a.k < 256) :
    Calls Try.prog 9 #[ptr p, a.v] w fun e w' => ActTo w w' B p va vb e (StepR bs ss a) := by
  obtain ⟨hb, hbox, hsz⟩ := step_boxes w a
  have HP := hid (cAmend (h.on hb) hF (by omega) a.i a.q)
  have HH := hid h
  have HBX := hid (And.intro hb (And.intro hbox hsz))
  have HK := hid hk
  have hm1 : (a.k : Int).tmod 6 = 5 := by rw [Int.tmod_eq_emod_of_nonneg (by omega)]; omega
  clear h hF hB hb hbox hsz hk
  go_enter Try.func9, Try.ntmps9
  go_wp2_with (go_at_call 15; refine HP.out.mono ?_; rintro e w2 ⟨err, fs, left, bs', ss', ⟨f, rfl, hOF, hT⟩, hR⟩; obtain ⟨af, capf, nf, rfl, hnf⟩ := hOF.asSlice; have hj := box3_at' ((hT.box HH.out (Nat.le_succ _) (by have := HBX.out.2.2; omega)).trans HBX.out.2.1); obtain ⟨⟨k0, k1, k2⟩, fz, hz⟩ := hj; have HT := hid (BkTo.n HBX.out.1 hT); have HOF := hid hOF; have HR := hid hR; clear hOF hT hnf hR)
  refine bodyPost_ret (v := rpV err (.slice af nf capf) left) (by simp [results, Try.results9, go_sem, k0, k1, k2]) rfl (ActTo.mk (err := err) (fs := fs) (left := left) (bs' := bs') (ss' := ss') ⟨.slice af nf capf, rfl, ?_, ?_⟩ (.inr (.inr ⟨HK.out, HR.out⟩)))
  · have hb2 : ∀ k, (Value.slice af nf capf).ownBlock = some k → k ≠ w.heap.size + 1 := fun k hk e => by have := (HOF.out.lt k hk).1; have := HBX.out.2.2; omega
    exact OwnG.mono (((HOF.out.tch (S := fun k => k = w.heap.size + 1) (Tch.set _ _ _ rfl) hb2).tch (S := fun k => k = w.heap.size + 1) (Tch.set _ _ _ rfl) hb2).tch (S := fun k => k = w.heap.size + 1) (Tch.set _ _ _ rfl) hb2) (by have := HBX.out.2.2; omega)
  · have h2 := HBX.out.2.2
    exact BkN.to (((HT.out.set HH.out (Nat.le_succ _) (by omega) _ _).set HH.out (Nat.le_succ _) (by omega) _ _).set HH.out (Nat.le_succ _) (by omega) _ _) (by omega)

theorem cStep {w : World} {B p : Nat} {va vb : Value} {bs ss : List Od} (h : BkA w B p va vb bs ss) (hF : FineB bs ss) (hB : B ≤ w.heap.size) (a : Ak) (hk8 : a.k < 256) :
    Calls Try.prog 9 #[ptr p, a.v] w fun e w' => ActTo w w' B p va vb e (StepR bs ss a) := by
  have h6 := Nat.mod_lt a.k (show 0 < 6 by decide)
  rcases (by omega : a.k % 6 < 4 ∨ a.k % 6 = 4 ∨ a.k % 6 = 5) with h1 | h1 | h1
  · exact cStep_place h hF hB a h1 hk8
  · exact cStep_cancel h hF hB a h1 hk8
  · exact cStep_amend h hF hB a h1 hk8
end Go.Proofs.Ytolbgmihphonbaa
