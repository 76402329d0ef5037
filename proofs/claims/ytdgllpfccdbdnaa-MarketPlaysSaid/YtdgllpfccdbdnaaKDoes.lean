/- The program's market: what a place's book does of a command. -/
import Derived.Test.YtdgllpfccdbdnaaKTold
import Derived.Test.YtdgllpfccdbdnaaRights
namespace Go.Proofs.Ytdgllpfccdbdnaa
set_option linter.unusedVariables false
set_option linter.unusedSimpArgs false
open Go.RowKit
open Go.Lib (hid)

def doesF (c : C7) (bs ss : List Od) : Res := if c.k = 0 then placeF bs ss ⟨c.i, c.d, c.p, c.q⟩ else if c.k = 1 then cancelF bs ss c.t else amendF bs ss c.t c.q
theorem Told.boxed {w W w' : World} {B p : Nat} {va vb : Value} {bs ss : List Od} {e : Ending} {err left : Int} {fs : List Fl} {bs' ss' : List Od} (hb : Below w.heap.size w W) (h0 : BkA w B p va vb bs ss)
    (h : Told W w' B p va vb e err fs left bs' ss') {N : Nat} (hN : w.heap.size ≤ N) (hn : N < W.heap.size) : ∃ a n c, e = .returned (rpV err (.slice a n c) left) ∧ w'.heap[N]? = W.heap[N]? ∧
      ∀ x y z, Told w (((w'.setCell ⟨N, 0, none⟩ x).setCell ⟨N, 1, none⟩ y).setCell ⟨N, 2, none⟩ z) B p va vb (.returned (rpV err (.slice a n c) left)) err fs left bs' ss' := by
  obtain ⟨f, rfl, hf, hT⟩ := h
  obtain ⟨a, c, n, rfl, hn2⟩ := hf.asSlice
  refine ⟨a, n, c, rfl, hT.box h0 hN hn, fun x y z => ⟨_, rfl, ?_, ?_⟩⟩
  · refine (OwnG.tch hf (((Tch.set (S := fun k => k = N) _ _ _ rfl).trans (Tch.set _ _ _ rfl)).trans (Tch.set _ _ _ rfl)) fun k hk e => ?_).mono hb.size
    have := (hf.lt k hk).1; omega
  · exact BkN.to ((((hT.n hb).set h0 hN hn _ _).set h0 hN hn _ _).set h0 hN hn _ _) hb.size
set_option maxHeartbeats 3200000 in
set_option maxRecDepth 100000 in
theorem cDoes {w : World} {B q : Nat} {va vb : Value} {bs ss : List Od} (h : BkA w B q va vb bs ss) (hF : FineB bs ss) (hB : B ≤ w.heap.size) (x y : Nat) (c : C7) :
    Calls Try.prog 20 #[.agg #[ptr q, cxV x y], cmV c.i c.k c.s c.t c.d c.p c.q] w fun e w' => ActTo w w' B q va vb e (EqR (doesF c bs ss)) := by
  rcases c with ⟨ci, ck, cs, ct, cd, cp, cq⟩
  simp only
  obtain ⟨W, hW⟩ : ∃ W, W = ((w.alloc (.cells #[ptr q, cxV x y] 59)).alloc (.cells #[.int .i64 ci, .int .i64 ck, .int .i64 cs, .int .i64 ct, .int .i64 cd, .int .i64 cp, .int .i64 cq] 42)).alloc box3 := ⟨_, rfl⟩
  have hBW : Below w.heap.size w W := by rw [hW]; exact (((Below.refl _ w).alloc (Nat.le_refl _) _).alloc (by simp) _).alloc (by simp; omega) _
  have hs : W.heap.size = w.heap.size + 3 := by rw [hW]; simp
  have b1 : W.heap[w.heap.size]? = some (.cells #[ptr q, cxV x y] 59 (0, 0)) := by rw [hW]; exact obAlloc (obAlloc (heap_alloc_new w _))
  have b2 : W.heap[w.heap.size + 1]? = some (.cells #[.int .i64 ci, .int .i64 ck, .int .i64 cs, .int .i64 ct, .int .i64 cd, .int .i64 cp, .int .i64 cq] 42 (0, 0)) := by
    rw [hW, show w.heap.size + 1 = (w.alloc (.cells #[ptr q, cxV x y] 59)).heap.size by simp]; exact obAlloc (heap_alloc_new _ _)
  have b3 : W.heap[w.heap.size + 2]? = some box3 := by
    rw [hW, show w.heap.size + 2 = ((w.alloc (.cells #[ptr q, cxV x y] 59)).alloc (.cells #[.int .i64 ci, .int .i64 ck, .int .i64 cs, .int .i64 ct, .int .i64 cd, .int .i64 cp, .int .i64 cq] 42)).heap.size by simp]; exact heap_alloc_new _ _
  have HK := hid h
  have HW := hid hW
  have HB3 := hid b3
  have HS := hid hs
  have HBW := hid hBW
  have j0 := cellAt' b1 0
  have i1 := cellAt' b2 0; have i2 := cellAt' b2 1; have i3 := cellAt' b2 2; have i4 := cellAt' b2 3; have i5 := cellAt' b2 4; have i6 := cellAt' b2 5; have i7 := cellAt' b2 6
  simp at j0 i1 i2 i3 i4 i5 i6 i7
  by_cases k0 : ck = 0
  · subst k0
    have HP : Hid (Calls Try.prog 33 #[ptr q, .agg #[.int .i64 ci, .int .i64 cd, .int .i64 cp, .int .i64 cq]] W fun e w' => ActTo W w' B q va vb e (EqR (doesF ⟨ci, 0, cs, ct, cd, cp, cq⟩ bs ss))) := hid (by unfold doesF; rw [if_pos rfl]; exact ePlace (h.on hBW) hF (by omega) _ _ _ _)
    clear h hF hW b1 b2 b3 hBW
    go_enter Try.func20, Try.ntmps20
    go_wp2_with fail
    go_at_call 33
    rw [← HW.out]
    refine HP.out.mono ?_
    rintro e w1 ⟨err, fs, left, bs', ss', hT, hR⟩
    obtain ⟨a, n, cc, rfl, hq, hx⟩ := hT.boxed HBW.out HK.out (N := w.heap.size + 2) (by omega) (by omega)
    have hq2 := hq.trans HB3.out
    have m0 := cellAt' hq2 0; have m1 := cellAt' hq2 1; have m2 := cellAt' hq2 2
    have fz : ∀ f, w1.frozen? ⟨w.heap.size + 2, f, none⟩ = false := fun f => by simp [World.frozen?, hq2]
    simp at m0 m1 m2
    have HX := hid hx
    have HR := hid hR
    clear hT hq hq2 hx hR
    go_wp2_with fail
    refine bodyPost_ret (v := rpV err (.slice a n cc) left) (by simp [results, Try.results20, go_sem, m0, m1, m2]) rfl ?_
    exact ActTo.mk (HX.out _ _ _) HR.out
  · by_cases k1 : ck = 1
    · subst k1
      have HP : Hid (Calls Try.prog 34 #[ptr q, .int .i64 ct] W fun e w' => ActTo W w' B q va vb e (EqR (doesF ⟨ci, 1, cs, ct, cd, cp, cq⟩ bs ss))) := hid (by unfold doesF; rw [if_neg k0, if_pos rfl]; exact eCancel (h.on hBW) hF _)
      clear h hF hW b1 b2 b3 hBW
      go_enter Try.func20, Try.ntmps20
      go_wp2_with fail
      go_at_call 34
      rw [← HW.out]
      refine HP.out.mono ?_
      rintro e w1 ⟨err, fs, left, bs', ss', hT, hR⟩
      obtain ⟨a, n, cc, rfl, hq, hx⟩ := hT.boxed HBW.out HK.out (N := w.heap.size + 2) (by omega) (by omega)
      have hq2 := hq.trans HB3.out
      have m0 := cellAt' hq2 0; have m1 := cellAt' hq2 1; have m2 := cellAt' hq2 2
      have fz : ∀ f, w1.frozen? ⟨w.heap.size + 2, f, none⟩ = false := fun f => by simp [World.frozen?, hq2]
      simp at m0 m1 m2
      have HX := hid hx
      have HR := hid hR
      clear hT hq hq2 hx hR
      go_wp2_with fail
      refine bodyPost_ret (v := rpV err (.slice a n cc) left) (by simp [results, Try.results20, go_sem, m0, m1, m2]) rfl ?_
      exact ActTo.mk (HX.out _ _ _) HR.out
    · have HP : Hid (Calls Try.prog 35 #[ptr q, .int .i64 ct, .int .i64 cq] W fun e w' => ActTo W w' B q va vb e (EqR (doesF ⟨ci, ck, cs, ct, cd, cp, cq⟩ bs ss))) := hid (by unfold doesF; rw [if_neg k0, if_neg k1]; exact eAmend (h.on hBW) hF (by omega) _ _)
      clear h hF hW b1 b2 b3 hBW
      go_enter Try.func20, Try.ntmps20
      go_wp2_with fail
      go_at_call 35
      rw [← HW.out]
      refine HP.out.mono ?_
      rintro e w1 ⟨err, fs, left, bs', ss', hT, hR⟩
      obtain ⟨a, n, cc, rfl, hq, hx⟩ := hT.boxed HBW.out HK.out (N := w.heap.size + 2) (by omega) (by omega)
      have hq2 := hq.trans HB3.out
      have m0 := cellAt' hq2 0; have m1 := cellAt' hq2 1; have m2 := cellAt' hq2 2
      have fz : ∀ f, w1.frozen? ⟨w.heap.size + 2, f, none⟩ = false := fun f => by simp [World.frozen?, hq2]
      simp at m0 m1 m2
      have HX := hid hx
      have HR := hid hR
      clear hT hq hq2 hx hR
      go_wp2_with fail
      refine bodyPost_ret (v := rpV err (.slice a n cc) left) (by simp [results, Try.results20, go_sem, m0, m1, m2]) rfl ?_
      exact ActTo.mk (HX.out _ _ _) HR.out
theorem cMFailed (err : Int) (w : World) : Calls Try.prog 19 #[.int .i64 err] w fun e w' => e = .returned (rpV err (.slice none 0 0) 0) ∧ Below w.heap.size w w' := by
  have hb := (Below.refl _ w).alloc (Nat.le_refl _) (.cells #[.int .i64 err, .slice none 0 0, .int .i64 0] 37)
  go_enter Try.func19, Try.ntmps19
  go_wp2
  exact bodyPost_ret (v := rpV err (.slice none 0 0) 0) (by simp [results, Try.results19, go_sem]) rfl ⟨rfl, hb⟩
end Go.Proofs.Ytdgllpfccdbdnaa
