/- The live question: its answer is fixed. -/
import Derived.Test.YtdgllpfccdbdnaaKApplyA
namespace Go.Proofs.Ytdgllpfccdbdnaa
set_option linter.unusedVariables false
set_option linter.unusedSimpArgs false
open Go.RowKit
open Go.Lib (hid)

theorem ok0 : ∀ i, i < 4 → PlOk ((fun _ => Pl.none : Nat → Pl) i) := fun i _ => ⟨FineB.nil, by simp [Pl.none], by simp [Pl.none]⟩
def c1 : C7 := ⟨16, 0, 2, 0, 1, 7, 4⟩
def c2 : C7 := ⟨17, 0, 2, 0, 0, 9, 3⟩
theorem does1 : doesF c1 [] [] = (0, [], 4, [], [⟨16, 1, 7, 4⟩]) := by
  simp [doesF, c1, placeF, refE, mayB, sideB, withinB, wOk, fillG, withoutG, insG]
theorem does2 : doesF c2 [] [⟨16, 1, 7, 4⟩] = (0, [⟨16, 7, 3⟩], 0, [], [⟨16, 1, 7, 1⟩]) := by
  simp [doesF, c2, placeF, refE, mayB, sideB, withinB, wOk, isI, fillG, meetsB, withoutG, insG, show min (3 : Int) 4 = 3 from by decide]
def P1 : Nat → Pl := upd (fun _ => Pl.none) 2 ⟨[], [⟨16, 1, 7, 4⟩], 0, 0⟩
def P2 : Nat → Pl := upd P1 2 ⟨[], [⟨16, 1, 7, 1⟩], 3, 21⟩
theorem apply1 : applyF c1 (fun _ => Pl.none) = (0, [], 4, P1) := by
  have h : c1.ok = true := by decide
  unfold applyF
  rw [if_neg (by rw [h]; decide)]
  show (if overB (0 + volF (doesF c1 [] []).2.1) (0 + valF (doesF c1 [] []).2.1) = true then _ else ((doesF c1 [] []).1, (doesF c1 [] []).2.1, (doesF c1 [] []).2.2.1, upd (fun _ => Pl.none) 2 (stepF Pl.none (doesF c1 [] [])))) = _
  rw [does1]
  rw [if_neg (by decide)]
  rfl
theorem apply2 : applyF c2 P1 = (0, [⟨16, 7, 3⟩], 0, P2) := by
  have h : c2.ok = true := by decide
  have e : P1 2 = ⟨[], [⟨16, 1, 7, 4⟩], 0, 0⟩ := upd_at _ _ _
  unfold applyF
  rw [if_neg (by rw [h]; decide)]
  have e2 : c2.s.toNat = 2 := rfl
  rw [e2, e]
  simp only
  rw [does2]
  rw [if_neg (by decide)]
  rfl

set_option maxHeartbeats 6400000 in
set_option maxRecDepth 100000 in
theorem cAlive (w : World) : Calls Try.prog 5 #[] w fun e w' => e = .returned (.bool true) ∧ Below w.heap.size w w' := by
  go_enter Try.func5, Try.ntmps5
  go_wp2_with fail
  go_at_call 6
  refine (cMNew w).mono ?_
  rintro e w1 ⟨rfl, ⟨q1, hK1⟩, hB1⟩
  obtain ⟨m, hm⟩ : ∃ m, m = w.heap.size := ⟨_, rfl⟩
  rw [← hm] at hK1 hB1 ⊢
  have HB1 := hid hB1
  have HK1 := hid hK1
  have HE := hid hm
  clear hK1 hB1 hm
  go_wp2_with fail
  go_at_call 8
  have h1 := cApply HK1.out ok0 c1
  rw [apply1] at h1
  refine h1.mono ?_
  rintro e w2 ⟨hok2, f2, q2, rfl, hf2, hK2, hT2⟩
  have HB2 : Hid (Below m w w2) := hid (HB1.out.trans (hT2.below (fun k hk => by omega) (by have := HB1.out.size; have := HE.out; omega)))
  have HK2 := hid hK2
  have HOK2 := hid hok2
  clear hT2 hK2 hok2 hf2 h1
  go_wp2_with fail
  go_at_call 8
  have h2 := cApply HK2.out HOK2.out c2
  rw [apply2] at h2
  refine h2.mono ?_
  rintro e w3 ⟨hok3, f3, q3, rfl, hf3, hK3, hT3⟩
  have HB3 : Hid (Below m w w3) := hid (HB2.out.trans (hT3.below (fun k hk => by omega) (by have := HB2.out.size; have := HE.out; omega)))
  obtain ⟨fa, fc, fn, rfl, hfn⟩ := hf3.asSlice
  have HK3 := hid hK3
  have HOK3 := hid hok3
  have HF3 := hid hf3
  clear hT3 hK3 hok3 hf3 h2 hfn
  go_wp2_with fail
  go_at_call 13
  generalize hW4 : w3.alloc _ = W4
  have hB4 : Below w3.heap.size w3 W4 := by rw [← hW4]; exact (Below.refl _ w3).alloc (Nat.le_refl _) _
  have b4 : W4.heap[w3.heap.size]? = some (.cells #[.int .i64 0, .slice fa fn fc, .int .i64 0] 37 (0, 0)) := by rw [← hW4]; exact heap_alloc_new w3 _
  have HB4 := hid hB4
  have Hb4 := hid b4
  have hT := cTurnover (HK3.out.on hB4) 2 (by omega) (HOK3.out 2 (by omega))
  have e2 : P2 2 = ⟨[], [⟨16, 1, 7, 1⟩], 3, 21⟩ := upd_at _ _ _
  rw [e2] at hT
  clear hB4 b4 hW4
  refine hT.mono ?_
  rintro e w5 ⟨rfl, hB5⟩
  have HB5 := hid (HB4.out.trans (hB5.mono HB4.out.size))
  have Hb5 := hid (obOn Hb4.out hB5 (Array.getElem?_eq_some_iff.1 Hb4.out).1)
  clear hB5 hT
  go_wp2_with fail
  go_at_call 14
  have hA := cAverage (HK3.out.on HB5.out) 2 (by omega) (HOK3.out 2 (by omega))
  rw [e2] at hA
  refine hA.mono ?_
  rintro e w6 ⟨rfl, hB6⟩
  have HB6 := hid (HB5.out.trans (hB6.mono HB5.out.size))
  have hb6 := obOn Hb5.out hB6 (Array.getElem?_eq_some_iff.1 Hb5.out).1
  have k0 := cellAt' hb6 0
  have k1 := cellAt' hb6 1
  have k2 := cellAt' hb6 2
  simp at k0 k1 k2
  have ha1 : (avgF 3 21).1 = 7 := by decide
  have ha2 : (avgF 3 21).2 = 0 := by decide
  simp only [ha1, ha2]
  clear hB6 hb6 hA e2
  go_wp2_with fail
  go_at_call 9
  generalize hW7 : w6.alloc _ = W7
  have hB7 : Below w6.heap.size w6 W7 := by rw [← hW7]; exact (Below.refl _ w6).alloc (Nat.le_refl _) _
  have hfr : OwnF W7 w6.heap.size (.slice (some ⟨w6.heap.size, 0, none⟩) 1 1) [⟨16, 7, 3⟩] := by
    rw [← hW7]
    exact ⟨rfl, .inr ⟨w6.heap.size, 1, #[.int .i64 16, .int .i64 7, .int .i64 3], rfl, Nat.le_refl _, heap_alloc_new w6 _, Nat.le_refl _, by unfold maxLen; omega, rfl, rfl⟩⟩
  have hfl : OwnF W7 w2.heap.size (.slice fa fn fc) [⟨16, 7, 3⟩] := ((HF3.out.on HB6.out)).on hB7
  refine (rSame hfl hfr (by simp) 0 0).mono ?_
  rintro e w8 ⟨rfl, hB8⟩
  have HB8 : Hid (Below w.heap.size w w8) := hid (by
    have he := HE.out
    have s3 := HB3.out.size
    have h6 := HB3.out.trans (HB6.out.mono (by omega))
    have s6 := h6.size
    have s7 := hB7.size
    have h7 := (h6.trans (hB7.mono (by omega))).trans (hB8.mono (by omega))
    rw [he] at h7
    exact h7)
  clear hB7 hB8 hfr hfl hW7
  go_wp2_with fail
  go_ret
  exact ⟨rfl, HB8.out⟩
end Go.Proofs.Ytdgllpfccdbdnaa
