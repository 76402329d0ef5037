/- The document's book: Cancel. -/
import Derived.Test.YtdgllpfccdbdnaaKRef2
namespace Go.Proofs.Ytdgllpfccdbdnaa
set_option linter.unusedVariables false
set_option linter.unusedSimpArgs false
open Go.RowKit
open Go.Lib (hid)

set_option maxHeartbeats 3200000 in
set_option maxRecDepth 100000 in
theorem rCancel {w : World} {b B : Nat} {v : Value} {L : List Od} (hb : RB w b v) (h : OwnR w B v L) (hl : L.length ≤ 1000) (id : Int) : Calls Try.prog 25 #[ptr b, .int .i64 id] w fun e w' => e = .returned (rpV (refCancel L id).1 (.slice none 0 0) (refCancel L id).2.1) ∧ RTo w w' b (refCancel L id).2.2 := by
  have hB : Below w.heap.size w (w.alloc box3) := (Below.refl _ w).alloc (Nat.le_refl _) _
  have HF := hid (rFind (hb.on hB) (h.on hB) hl id)
  have HW := hid (rWithout (h.on hB) hl (L.findIdx (isI id)))
  have HB := hid hB
  have HRB := hid hb
  have HOW := hid h
  obtain ⟨hlt, c0, _⟩ := (hb.on hB).cells
  have hbw := hb.cells.1
  obtain ⟨a, n, c, rfl, hn, hx⟩ := OwnR.at (h.on hB)
  have hq := heap_alloc_new w box3
  have HQ := hid hq
  rcases idx_cases L id with ⟨ha, hi, o, ho⟩ | ⟨ha, hi⟩
  · rw [hi] at HF
    have hE : refCancel L id = (0, o.n, less L (L.findIdx (isI id))) := by unfold refCancel; rw [ha, ho]; rfl
    rw [hE]
    have hk := (List.getElem?_eq_some_iff.1 ho).1
    obtain ⟨g, rfl, hg, k0, k1, k2, k3⟩ := hx _ _ ho
    have hgN : Hid (0 = 0) := hid rfl
    generalize L.findIdx (isI id) = z at HF HW hk k0 k1 k2 k3 ⊢
    have hzn : (z : Int) < (n : Int) := by omega
    have hz0 : ¬ (z : Int) < 0 := by omega
    have hn1 : n ≤ 1000 := by omega
    clear h hb ha hi hx hn hB hE ho hk
    go_enter Try.func25, Try.ntmps25
    go_wp2_with fail
    go_at_call 42
    refine HF.out.mono ?_
    rintro e w1 ⟨rfl, rfl⟩
    generalize w.alloc box3 = W at HB HQ HW hlt c0 hg k0 k1 k2 k3 hq ⊢
    clear hq
    go_wp2_with fail
    go_at_call 41
    refine HW.out.mono ?_
    rintro e w2 ⟨r, rfl, hO, hB2⟩
    have hBB := HB.out.trans (hB2.mono HB.out.size)
    have HFIN := hid (fun x y z => RTo.fin hBB HRB.out hO (N := w.heap.size) (Nat.le_refl _) (Array.getElem?_eq_some_iff.1 HQ.out).1 x y z)
    obtain ⟨hb2, e0, f0⟩ := (HRB.out.on hBB).cells
    have hq2 := obOn HQ.out hB2 (Array.getElem?_eq_some_iff.1 HQ.out).1
    obtain ⟨⟨j0, j1, j2⟩, fz, hz⟩ := box3_at hq2
    obtain ⟨ra, rc, rn, rfl, hrn⟩ := hO.asSlice
    have hne : ¬ b = w.heap.size := by omega
    have hne2 : ¬ w.heap.size = b := by omega
    clear hO hB2 hBB hq2 k0 k1 k2 k3 c0 hrn
    go_wp2_with fail
    refine bodyPost_ret (v := rpV 0 (.slice none 0 0) o.n) (by simp [results, Try.results25, go_sem, j0, j1, j2]) rfl ⟨rfl, ?_⟩
    exact HFIN.out (.int .i64 0) (.slice none 0 0) (.int .i64 o.n)
  · rw [hi] at HF
    have hE : refCancel L id = (5, 0, L) := by unfold refCancel; rw [ha]; rfl
    rw [hE]
    clear h hb ha hi hx hn hB hE
    go_enter Try.func25, Try.ntmps25
    go_wp2_with fail
    go_at_call 42
    refine HF.out.mono ?_
    rintro e w1 ⟨rfl, rfl⟩
    obtain ⟨⟨j0, j1, j2⟩, fz, hz⟩ := box3_at hq
    generalize w.alloc box3 = W at HB HQ HW hlt c0 hq j0 j1 j2 fz hz ⊢
    clear hq
    go_wp2_with fail
    refine bodyPost_ret (v := rpV 5 (.slice none 0 0) 0) (by simp [results, Try.results25, go_sem, j0, j1, j2]) rfl ⟨rfl, ?_⟩
    exact RTo.same HRB.out HOW.out (below3 HB.out (Nat.le_refl _) _ _ _)
end Go.Proofs.Ytdgllpfccdbdnaa
