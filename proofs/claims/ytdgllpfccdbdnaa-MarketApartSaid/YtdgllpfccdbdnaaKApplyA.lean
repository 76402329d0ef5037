/- The program's market: Apply, whatever the command; no market. -/
import Derived.Test.YtdgllpfccdbdnaaKApply0
import Derived.Test.YtdgllpfccdbdnaaKApply1
import Derived.Test.YtdgllpfccdbdnaaKApply2
import Derived.Test.YtdgllpfccdbdnaaKApply3
namespace Go.Proofs.Ytdgllpfccdbdnaa
set_option linter.unusedVariables false
set_option linter.unusedSimpArgs false
open Go.RowKit
open Go.Lib (hid)

theorem cApply {w : World} {m : Nat} {q : Nat → Nat} {P : Nat → Pl} (h : Mk w m q P) (hok : ∀ i, i < 4 → PlOk (P i)) (c : C7) : Calls Try.prog 8 #[ptr m, cmV c.i c.k c.s c.t c.d c.p c.q] w fun e w' => Appl w w' m e (applyF c P) := by
  rcases hc : c.ok with _ | _
  · exact cApply_bad h hok c hc
  · obtain ⟨h0, h3⟩ := ok_sym hc
    obtain ⟨ci, ck, cs, ct, cd, cp, cq⟩ := c
    simp only at h0 h3 hc ⊢
    obtain rfl | rfl | rfl | rfl : cs = 0 ∨ cs = 1 ∨ cs = 2 ∨ cs = 3 := by omega
    · exact cApply0 h hok ci ck ct cd cp cq hc
    · exact cApply1 h hok ci ck ct cd cp cq hc
    · exact cApply2 h hok ci ck ct cd cp cq hc
    · exact cApply3 h hok ci ck ct cd cp cq hc
set_option maxHeartbeats 1600000 in
set_option maxRecDepth 100000 in
theorem cApply_nil (w : World) (i k s t d p q : Int) : Calls Try.prog 8 #[.pointer none, cmV i k s t d p q] w fun e w' => e = .returned (rpV 1 (.slice none 0 0) 0) ∧ Below w.heap.size w w' := by
  obtain ⟨W, hW⟩ : ∃ W, W = (w.alloc (.cells #[.int .i64 i, .int .i64 k, .int .i64 s, .int .i64 t, .int .i64 d, .int .i64 p, .int .i64 q] 42)).alloc box3 := ⟨_, rfl⟩
  have hB : Below w.heap.size w W := by rw [hW]; exact ((Below.refl _ w).alloc (Nat.le_refl _) _).alloc (by simp) _
  have b1 : W.heap[w.heap.size + 1]? = some box3 := by
    rw [hW, show w.heap.size + 1 = (w.alloc (.cells #[.int .i64 i, .int .i64 k, .int .i64 s, .int .i64 t, .int .i64 d, .int .i64 p, .int .i64 q] 42)).heap.size by simp]; exact heap_alloc_new _ _
  have HW := hid hW
  have HB := hid hB
  have Hb1 := hid b1
  clear hW hB b1
  go_enter Try.func8, Try.ntmps8
  go_wp2_with fail
  go_at_call 19
  rw [← HW.out]
  refine (cMFailed _ _).mono ?_
  rintro e w2 ⟨rfl, hB2⟩
  have hq := obOn Hb1.out hB2 (Array.getElem?_eq_some_iff.1 Hb1.out).1
  have k0 := cellAt' hq 0; have k1 := cellAt' hq 1; have k2 := cellAt' hq 2
  have fz : ∀ f, w2.frozen? ⟨w.heap.size + 1, f, none⟩ = false := fun f => by simp [World.frozen?, hq]
  simp at k0 k1 k2
  have HB2 := hid (HB.out.trans (hB2.mono HB.out.size))
  clear hq hB2
  go_wp2_with fail
  refine bodyPost_ret (v := rpV 1 (.slice none 0 0) 0) (by simp [results, Try.results8, go_sem, k0, k1, k2]) rfl ?_
  exact ⟨rfl, below_set3 HB2.out (N := w.heap.size + 1) (by omega) _ _ _⟩
end Go.Proofs.Ytdgllpfccdbdnaa
