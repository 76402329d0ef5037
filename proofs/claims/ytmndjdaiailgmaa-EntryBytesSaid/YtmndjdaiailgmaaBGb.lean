/- An entry's bytes: the document's Bytes. -/
import Derived.Test.YtmndjdaiailgmaaCCmds
import Derived.Test.YtmndjdaiailgmaaValS
import Derived.Test.YtmndjdaiailgmaaRise
import Derived.Test.YtmndjdaiailgmaaRCmds
import Derived.Test.YtmndjdaiailgmaaRest4
import Derived.Test.YtmndjdaiailgmaaBGa
import Derived.Deep.CutRange
import Derived.Deep.RegionHeld3
/- The program's reader: Value. -/
namespace Go.Proofs.Ytmndjdaiailgmaa
set_option linter.unusedVariables false
open Go.RowKit
open Go.Lib (hid)

set_option maxHeartbeats 1600000 in
set_option maxRecDepth 100000 in
theorem cValue {F : Nat → Prop} {p : Nat} {s : St} {w : World} (h : Rd 98 F w p s) (hF : ∀ k, F k → k < w.heap.size) : Calls Try.prog 49 #[.pointer (some ⟨p, 0, none⟩)] w fun x w' => ∃ r, x = .returned (.agg #[.int .i64 (valueS s).1.1, r]) ∧ Own w' w.heap.size r (valueS s).1.2 ∧ Rd 98 F w' p (valueS s).2 ∧ w.grownBy w' (some p) := by
  have hp := h.lt
  have HX := hid hF
  have hN := cNum (h.alloc zeroV)
  clear h hF
  obtain ⟨n, hn⟩ : ∃ n, n = (numS s).1 := ⟨_, rfl⟩
  rw [← hn] at hN
  have HN := hid hn
  clear hn
  obtain ⟨cs, hcs⟩ : ∃ cs, cs = (cmdsS (numS s).2).1 := ⟨_, rfl⟩
  have hln : cs.length ≤ 1024 := by rw [hcs]; exact cmdsS_short
  have HCS := hid hcs
  clear hcs
  go_enter Try.func49, Try.ntmps49
  by_cases he : (cmdsS (numS s).2).2.2 = 0
  · rcases hset : setB (cmdsS (numS s).2).1 with _ | _
    · have HE := hid (valueS_no he hset)
      rw [← HCS.out] at hset
      go_wp2_with (first
        | (go_at_call 48; (
            refine hN.mono ?_
            rintro e w1 ⟨rfl, hR, hg⟩
            have hs1 : w.heap.size < w1.heap.size := by have := hg.size; simp at this; omega
            have hC := cCmds hR (fun j hj => Nat.lt_of_lt_of_le (HX.out j hj) (by omega))
            rw [← HCS.out] at hC
            have HC := hid hC
            have HG := hid hg
            clear hR hg hC))
        | (go_at_call 75; (
            refine HC.out.mono ?_
            rintro e w2 ⟨r, rfl, hown, hR, hg⟩
            have hR2 := cSetRight hown.sl hln
            have H2 := hid (And.intro hown (And.intro hR (grownTrans HG.out hg)))
            have hs2 := hg.size
            obtain ⟨gr, capr, nr, rfl, hnr⟩ := hown.asSlice
            clear hnr hown hR hg
            rw [hset] at hR2))
        | (go_at_call 66; (
            refine hR2.mono ?_
            rintro e w3 ⟨rfl, hB⟩
            have hs3 := hB.size
            have hRd := H2.out.2.1.on hB
            have hG : (w.alloc zeroV).grownBy w3 (some p) := grownUnder H2.out.2.2 (hB.mono (by simp; omega))
            have hz : w3.heap[w.heap.size]? = some zeroV := heapB (heapOf (heap_alloc_new w zeroV) H2.out.2.2 (by omega)) hB (by omega)
            have HO := hid (own_sl_below H2.out.1 hB)
            clear hB
            have HFi := hid (fun r hr => cFine_no' hRd he r hr)
            have HZ := hid (And.intro hz hG)
            clear hz hG hRd))
        | (go_at_call 73; (
            refine (HFi.out _ (by rfl)).mono ?_
            rintro e w4 ⟨rfl, hRd, hg4⟩
            have hz := heapOf HZ.out.1 hg4 (by omega)
            have hG := grownTrans HZ.out.2 hg4
            have r0 : w4.cell? ⟨w.heap.size, 0, none⟩ = some (.int .i64 0) := (cellAt' hz 0).trans rfl
            have r1 : w4.cell? ⟨w.heap.size, 1, none⟩ = some (.slice none 0 0) := (cellAt' hz 1).trans rfl
            have fr : ∀ f, w4.frozen? ⟨w.heap.size, f, none⟩ = false := fun f => frozenAt hz f
            have hsW : w.heap.size < w4.heap.size := (Array.getElem?_eq_some_iff.1 hz).1
            have HD := hid (And.intro hRd hG)
            clear hz hRd hG
            clear hg4)))
      refine bodyPost_ret (v := .agg #[.int .i64 0, (.slice none 0 0)]) (by simp [results, Try.results49, go_sem, r0, r1]) rfl ⟨(.slice none 0 0), ?_, ?_, ?_, ?_⟩
      · rw [HE.out]; rfl
      · rw [HE.out]
        exact Own.nil _ _
      · rw [HE.out]
        exact HD.out.1.keptN (grownSet2q _ _ _ _) fun j hj => ⟨by cases hj; omega, fun hh => by cases hj; have := HX.out _ hh; omega⟩
      · exact grownThen (grownTrans (World.grownBy_alloc w zeroV _) HD.out.2) (grownSet2q _ _ _ _) fun j hj => by cases hj; exact Nat.le_refl _
    · have HE := hid (valueS_yes he hset)
      rw [← HCS.out] at hset
      go_wp2_with (first
        | (go_at_call 48; (
            refine hN.mono ?_
            rintro e w1 ⟨rfl, hR, hg⟩
            have hs1 : w.heap.size < w1.heap.size := by have := hg.size; simp at this; omega
            have hC := cCmds hR (fun j hj => Nat.lt_of_lt_of_le (HX.out j hj) (by omega))
            rw [← HCS.out] at hC
            have HC := hid hC
            have HG := hid hg
            clear hR hg hC))
        | (go_at_call 75; (
            refine HC.out.mono ?_
            rintro e w2 ⟨r, rfl, hown, hR, hg⟩
            have hR2 := cSetRight hown.sl hln
            have H2 := hid (And.intro hown (And.intro hR (grownTrans HG.out hg)))
            have hs2 := hg.size
            obtain ⟨gr, capr, nr, rfl, hnr⟩ := hown.asSlice
            clear hnr hown hR hg
            rw [hset] at hR2))
        | (go_at_call 66; (
            refine hR2.mono ?_
            rintro e w3 ⟨rfl, hB⟩
            have hs3 := hB.size
            have hRd := H2.out.2.1.on hB
            have hG : (w.alloc zeroV).grownBy w3 (some p) := grownUnder H2.out.2.2 (hB.mono (by simp; omega))
            have hz : w3.heap[w.heap.size]? = some zeroV := heapB (heapOf (heap_alloc_new w zeroV) H2.out.2.2 (by omega)) hB (by omega)
            have HO := hid (own_sl_below H2.out.1 hB)
            clear hB
            have HFi := hid (fun r hr => cFine_ok' hRd he r hr)
            have r0 : w3.cell? ⟨w.heap.size, 0, none⟩ = some (.int .i64 0) := (cellAt' hz 0).trans rfl
            have r1 : w3.cell? ⟨w.heap.size, 1, none⟩ = some (.slice none 0 0) := (cellAt' hz 1).trans rfl
            have fr : ∀ f, w3.frozen? ⟨w.heap.size, f, none⟩ = false := fun f => frozenAt hz f
            have hsW : w.heap.size < w3.heap.size := (Array.getElem?_eq_some_iff.1 hz).1
            have HD := hid (And.intro hRd hG)
            clear hz hRd hG))
        | (go_at_call 73; (
            refine (HFi.out _ (by rfl)).mono ?_
            rintro e w4 ⟨rfl, rfl⟩)))
      refine bodyPost_ret (v := .agg #[.int .i64 (n : Nat), (.slice gr nr capr)]) (by simp [results, Try.results49, go_sem, r0, r1]) rfl ⟨(.slice gr nr capr), ?_, ?_, ?_, ?_⟩
      · rw [HE.out]; exact congrArg _ (by rw [HN.out])
      · rw [HE.out]
        rw [← HCS.out]; exact own_monoB (Own.kept' HO.out (grownSet2q _ _ _ _) (by omega)) (by omega)
      · rw [HE.out]
        exact HD.out.1.keptN (grownSet2q _ _ _ _) fun j hj => ⟨by cases hj; omega, fun hh => by cases hj; have := HX.out _ hh; omega⟩
      · exact grownThen (grownTrans (World.grownBy_alloc w zeroV _) HD.out.2) (grownSet2q _ _ _ _) fun j hj => by cases hj; exact Nat.le_refl _
  · have HE := hid (valueS_err he)
    go_wp2_with (first
      | (go_at_call 48; (
          refine hN.mono ?_
          rintro e w1 ⟨rfl, hR, hg⟩
          have hs1 : w.heap.size < w1.heap.size := by have := hg.size; simp at this; omega
          have hC := cCmds hR (fun j hj => Nat.lt_of_lt_of_le (HX.out j hj) (by omega))
          rw [← HCS.out] at hC
          have HC := hid hC
          have HG := hid hg
          clear hR hg hC))
      | (go_at_call 75; (
          refine HC.out.mono ?_
          rintro e w2 ⟨r, rfl, hown, hR, hg⟩
          have hR2 := cSetRight hown.sl hln
          have H2 := hid (And.intro hown (And.intro hR (grownTrans HG.out hg)))
          have hs2 := hg.size
          obtain ⟨gr, capr, nr, rfl, hnr⟩ := hown.asSlice
          clear hnr hown hR hg
          ))
      | (go_at_call 66; (
          refine hR2.mono ?_
          rintro e w3 ⟨rfl, hB⟩
          have hs3 := hB.size
          have hRd := H2.out.2.1.on hB
          have hG : (w.alloc zeroV).grownBy w3 (some p) := grownUnder H2.out.2.2 (hB.mono (by simp; omega))
          have hz : w3.heap[w.heap.size]? = some zeroV := heapB (heapOf (heap_alloc_new w zeroV) H2.out.2.2 (by omega)) hB (by omega)
          have HO := hid (own_sl_below H2.out.1 hB)
          clear hB
          have HFi := hid (fun r => cFine_bad hRd he r)
          have r0 : w3.cell? ⟨w.heap.size, 0, none⟩ = some (.int .i64 0) := (cellAt' hz 0).trans rfl
          have r1 : w3.cell? ⟨w.heap.size, 1, none⟩ = some (.slice none 0 0) := (cellAt' hz 1).trans rfl
          have fr : ∀ f, w3.frozen? ⟨w.heap.size, f, none⟩ = false := fun f => frozenAt hz f
          have hsW : w.heap.size < w3.heap.size := (Array.getElem?_eq_some_iff.1 hz).1
          have HD := hid (And.intro hRd hG)
          clear hz hRd hG))
      | (go_at_call 73; (
          refine (HFi.out _).mono ?_
          rintro e w4 ⟨rfl, rfl⟩)))
    refine bodyPost_ret (v := .agg #[.int .i64 0, (.slice none 0 0)]) (by simp [results, Try.results49, go_sem, r0, r1]) rfl ⟨(.slice none 0 0), ?_, ?_, ?_, ?_⟩
    · rw [HE.out]; rfl
    · rw [HE.out]
      exact Own.nil _ _
    · rw [HE.out]
      exact HD.out.1.keptN (grownSet2q _ _ _ _) fun j hj => ⟨by cases hj; omega, fun hh => by cases hj; have := HX.out _ hh; omega⟩
    · exact grownThen (grownTrans (World.grownBy_alloc w zeroV _) HD.out.2) (grownSet2q _ _ _ _) fun j hj => by cases hj; exact Nat.le_refl _
end Go.Proofs.Ytmndjdaiailgmaa
/- The document's reader: Value. -/
namespace Go.Proofs.Ytmndjdaiailgmaa
set_option linter.unusedVariables false
open Go.RowKit
open Go.Lib (hid)

set_option maxHeartbeats 1600000 in
set_option maxRecDepth 100000 in
theorem rValue {F : Nat → Prop} {p : Nat} {s : St} {w : World} (h : Rd 87 F w p s) (hF : ∀ k, F k → k < w.heap.size) : Calls Try.prog 81 #[.pointer (some ⟨p, 0, none⟩)] w fun x w' => ∃ r, x = .returned (.agg #[.int .i64 (valueS s).1.1, r]) ∧ Own w' w.heap.size r (valueS s).1.2 ∧ Rd 87 F w' p (valueS s).2 ∧ w.grownBy w' (some p) := by
  have hp := h.lt
  have HX := hid hF
  have hN := rNum (h.alloc zeroV)
  clear h hF
  obtain ⟨n, hn⟩ : ∃ n, n = (numS s).1 := ⟨_, rfl⟩
  rw [← hn] at hN
  have HN := hid hn
  clear hn
  obtain ⟨cs, hcs⟩ : ∃ cs, cs = (cmdsS (numS s).2).1 := ⟨_, rfl⟩
  have hln : cs.length ≤ 1024 := by rw [hcs]; exact cmdsS_short
  have HCS := hid hcs
  clear hcs
  go_enter Try.func81, Try.ntmps81
  by_cases he : (cmdsS (numS s).2).2.2 = 0
  · rcases hset : setB (cmdsS (numS s).2).1 with _ | _
    · have HE := hid (valueS_no he hset)
      rw [← HCS.out] at hset
      go_wp2_with (first
        | (go_at_call 80; (
            refine hN.mono ?_
            rintro e w1 ⟨rfl, hR, hg⟩
            have hs1 : w.heap.size < w1.heap.size := by have := hg.size; simp at this; omega
            have hC := rCmds hR (fun j hj => Nat.lt_of_lt_of_le (HX.out j hj) (by omega))
            rw [← HCS.out] at hC
            have HC := hid hC
            have HG := hid hg
            clear hR hg hC))
        | (go_at_call 89; (
            refine HC.out.mono ?_
            rintro e w2 ⟨r, rfl, hown, hR, hg⟩
            have hR2 := rSetRight hown.sl hln
            have H2 := hid (And.intro hown (And.intro hR (grownTrans HG.out hg)))
            have hs2 := hg.size
            obtain ⟨gr, capr, nr, rfl, hnr⟩ := hown.asSlice
            clear hnr hown hR hg
            rw [hset] at hR2))
        | (go_at_call 77; (
            refine hR2.mono ?_
            rintro e w3 ⟨rfl, hB⟩
            have hs3 := hB.size
            have hRd := H2.out.2.1.on hB
            have hG : (w.alloc zeroV).grownBy w3 (some p) := grownUnder H2.out.2.2 (hB.mono (by simp; omega))
            have hz : w3.heap[w.heap.size]? = some zeroV := heapB (heapOf (heap_alloc_new w zeroV) H2.out.2.2 (by omega)) hB (by omega)
            have HO := hid (own_sl_below H2.out.1 hB)
            clear hB
            obtain ⟨v3, _, _, _, c1, _, _, _, _⟩ := hRd.cells
            rw [he] at c1
            have HFi := hid (rFail hRd 2)
            have HZ := hid (And.intro hz hG)
            clear hz hG hRd))
        | (go_at_call 88; (
            refine HFi.out.mono ?_
            rintro e w4 ⟨rfl, hRd, hg4⟩
            obtain ⟨v4, _, _, _, c4, _, _, _, _⟩ := hRd.cells
            dsimp only at c4
            have hz := heapOf HZ.out.1 hg4 (by omega)
            have hG := grownTrans HZ.out.2 hg4
            have r0 : w4.cell? ⟨w.heap.size, 0, none⟩ = some (.int .i64 0) := (cellAt' hz 0).trans rfl
            have r1 : w4.cell? ⟨w.heap.size, 1, none⟩ = some (.slice none 0 0) := (cellAt' hz 1).trans rfl
            have fr : ∀ f, w4.frozen? ⟨w.heap.size, f, none⟩ = false := fun f => frozenAt hz f
            have hsW : w.heap.size < w4.heap.size := (Array.getElem?_eq_some_iff.1 hz).1
            have HD := hid (And.intro hRd hG)
            clear hz hRd hG
            clear hg4)))
      refine bodyPost_ret (v := .agg #[.int .i64 0, (.slice none 0 0)]) (by simp [results, Try.results81, go_sem, r0, r1]) rfl ⟨(.slice none 0 0), ?_, ?_, ?_, ?_⟩
      · rw [HE.out]; rfl
      · rw [HE.out]
        exact Own.nil _ _
      · rw [HE.out]
        exact HD.out.1.keptN (grownSet2q _ _ _ _) fun j hj => ⟨by cases hj; omega, fun hh => by cases hj; have := HX.out _ hh; omega⟩
      · exact grownThen (grownTrans (World.grownBy_alloc w zeroV _) HD.out.2) (grownSet2q _ _ _ _) fun j hj => by cases hj; exact Nat.le_refl _
    · have HE := hid (valueS_yes he hset)
      rw [← HCS.out] at hset
      go_wp2_with (first
        | (go_at_call 80; (
            refine hN.mono ?_
            rintro e w1 ⟨rfl, hR, hg⟩
            have hs1 : w.heap.size < w1.heap.size := by have := hg.size; simp at this; omega
            have hC := rCmds hR (fun j hj => Nat.lt_of_lt_of_le (HX.out j hj) (by omega))
            rw [← HCS.out] at hC
            have HC := hid hC
            have HG := hid hg
            clear hR hg hC))
        | (go_at_call 89; (
            refine HC.out.mono ?_
            rintro e w2 ⟨r, rfl, hown, hR, hg⟩
            have hR2 := rSetRight hown.sl hln
            have H2 := hid (And.intro hown (And.intro hR (grownTrans HG.out hg)))
            have hs2 := hg.size
            obtain ⟨gr, capr, nr, rfl, hnr⟩ := hown.asSlice
            clear hnr hown hR hg
            rw [hset] at hR2))
        | (go_at_call 77; (
            refine hR2.mono ?_
            rintro e w3 ⟨rfl, hB⟩
            have hs3 := hB.size
            have hRd := H2.out.2.1.on hB
            have hG : (w.alloc zeroV).grownBy w3 (some p) := grownUnder H2.out.2.2 (hB.mono (by simp; omega))
            have hz : w3.heap[w.heap.size]? = some zeroV := heapB (heapOf (heap_alloc_new w zeroV) H2.out.2.2 (by omega)) hB (by omega)
            have HO := hid (own_sl_below H2.out.1 hB)
            clear hB
            obtain ⟨v3, _, _, _, c1, _, _, _, _⟩ := hRd.cells
            rw [he] at c1
            have r0 : w3.cell? ⟨w.heap.size, 0, none⟩ = some (.int .i64 0) := (cellAt' hz 0).trans rfl
            have r1 : w3.cell? ⟨w.heap.size, 1, none⟩ = some (.slice none 0 0) := (cellAt' hz 1).trans rfl
            have fr : ∀ f, w3.frozen? ⟨w.heap.size, f, none⟩ = false := fun f => frozenAt hz f
            have hsW : w.heap.size < w3.heap.size := (Array.getElem?_eq_some_iff.1 hz).1
            have HD := hid (And.intro hRd hG)
            clear hz hRd hG)))
      refine bodyPost_ret (v := .agg #[.int .i64 (n : Nat), (.slice gr nr capr)]) (by simp [results, Try.results81, go_sem, r0, r1]) rfl ⟨(.slice gr nr capr), ?_, ?_, ?_, ?_⟩
      · rw [HE.out]; exact congrArg _ (by rw [HN.out])
      · rw [HE.out]
        rw [← HCS.out]; exact own_monoB (Own.kept' HO.out (grownSet2q _ _ _ _) (by omega)) (by omega)
      · rw [HE.out]
        exact HD.out.1.keptN (grownSet2q _ _ _ _) fun j hj => ⟨by cases hj; omega, fun hh => by cases hj; have := HX.out _ hh; omega⟩
      · exact grownThen (grownTrans (World.grownBy_alloc w zeroV _) HD.out.2) (grownSet2q _ _ _ _) fun j hj => by cases hj; exact Nat.le_refl _
  · have HE := hid (valueS_err he)
    obtain ⟨ee, hee⟩ : ∃ ee, ee = (cmdsS (numS s).2).2.2 := ⟨_, rfl⟩
    rw [← hee] at he
    go_wp2_with (first
      | (go_at_call 80; (
          refine hN.mono ?_
          rintro e w1 ⟨rfl, hR, hg⟩
          have hs1 : w.heap.size < w1.heap.size := by have := hg.size; simp at this; omega
          have hC := rCmds hR (fun j hj => Nat.lt_of_lt_of_le (HX.out j hj) (by omega))
          rw [← HCS.out] at hC
          have HC := hid hC
          have HG := hid hg
          clear hR hg hC))
      | (go_at_call 89; (
          refine HC.out.mono ?_
          rintro e w2 ⟨r, rfl, hown, hR, hg⟩
          have hR2 := rSetRight hown.sl hln
          have H2 := hid (And.intro hown (And.intro hR (grownTrans HG.out hg)))
          have hs2 := hg.size
          obtain ⟨gr, capr, nr, rfl, hnr⟩ := hown.asSlice
          clear hnr hown hR hg
          ))
      | (go_at_call 77; (
          refine hR2.mono ?_
          rintro e w3 ⟨rfl, hB⟩
          have hs3 := hB.size
          have hRd := H2.out.2.1.on hB
          have hG : (w.alloc zeroV).grownBy w3 (some p) := grownUnder H2.out.2.2 (hB.mono (by simp; omega))
          have hz : w3.heap[w.heap.size]? = some zeroV := heapB (heapOf (heap_alloc_new w zeroV) H2.out.2.2 (by omega)) hB (by omega)
          have HO := hid (own_sl_below H2.out.1 hB)
          clear hB
          obtain ⟨v3, _, _, _, c1, _, _, _, _⟩ := hRd.cells
          rw [← hee] at c1
          clear hee
          have r0 : w3.cell? ⟨w.heap.size, 0, none⟩ = some (.int .i64 0) := (cellAt' hz 0).trans rfl
          have r1 : w3.cell? ⟨w.heap.size, 1, none⟩ = some (.slice none 0 0) := (cellAt' hz 1).trans rfl
          have fr : ∀ f, w3.frozen? ⟨w.heap.size, f, none⟩ = false := fun f => frozenAt hz f
          have hsW : w.heap.size < w3.heap.size := (Array.getElem?_eq_some_iff.1 hz).1
          have HD := hid (And.intro hRd hG)
          clear hz hRd hG)))
    refine bodyPost_ret (v := .agg #[.int .i64 0, (.slice none 0 0)]) (by simp [results, Try.results81, go_sem, r0, r1]) rfl ⟨(.slice none 0 0), ?_, ?_, ?_, ?_⟩
    · rw [HE.out]; rfl
    · rw [HE.out]
      exact Own.nil _ _
    · rw [HE.out]
      exact HD.out.1.keptN (grownSet2q _ _ _ _) fun j hj => ⟨by cases hj; omega, fun hh => by cases hj; have := HX.out _ hh; omega⟩
    · exact grownThen (grownTrans (World.grownBy_alloc w zeroV _) HD.out.2) (grownSet2q _ _ _ _) fun j hj => by cases hj; exact Nat.le_refl _
end Go.Proofs.Ytmndjdaiailgmaa
/- Entries by value: New; the live question of layer 6. -/
namespace Go.Proofs.Ytmndjdaiailgmaa
set_option linter.unusedVariables false
open Go.RowKit
open Go.Lib (hid)

abbrev newE (c : C7) : Ev := { zE with c := c }
theorem loadGC {ops : Array Oper} {rest : List Oper} {op : Oper} {a : Act} {w : World} {Q : Exit → Act → World → Prop} {x : Operand} {b : Nat} (e : Ev) (hgd : Region.wanted op (yielded ops a.tmps) = true) (ho : op.op = .load 30 x)
    (hx : a.eval x = .pointer (some ⟨b, 0, none⟩)) {T : TypeId} (hc : Ob w b T e) (h : wpList Try.prog ops Q rest (a.put op.dst (.agg e.arr)) w) : wpList Try.prog ops Q (op :: rest) a w :=
  BigFrame.wpList_want hgd fun _ hK => wp_load_mid 30 x ho b 0 hx e.list _ hc.range Try.underlying30 rfl (infoEc e) (hK _ _ h)
theorem loadGR {ops : Array Oper} {rest : List Oper} {op : Oper} {a : Act} {w : World} {Q : Exit → Act → World → Prop} {x : Operand} {b : Nat} (e : Ev) (hgd : Region.wanted op (yielded ops a.tmps) = true) (ho : op.op = .load 36 x)
    (hx : a.eval x = .pointer (some ⟨b, 0, none⟩)) {T : TypeId} (hc : Ob w b T e) (h : wpList Try.prog ops Q rest (a.put op.dst (.agg e.arr)) w) : wpList Try.prog ops Q (op :: rest) a w :=
  BigFrame.wpList_want hgd fun _ hK => wp_load_mid 36 x ho b 0 hx e.list _ hc.range Try.underlying36 rfl (infoE e) (hK _ _ h)
set_option maxHeartbeats 8000000 in
set_option maxRecDepth 100000 in
theorem cNew {c : C7} {w : World} (hc : c.ok = true) : Calls Try.prog 22 #[.agg #[.int .i64 c.i, .int .i64 c.k, .int .i64 c.s, .int .i64 c.t, .int .i64 c.d, .int .i64 c.p, .int .i64 c.q]] w fun x w' => x = .returned (.tuple #[.agg (newE c).arr, .int .i64 0]) ∧ Below w.heap.size w w' := by
  have hO : ∀ (W : World) (u : Value), Sl W u [c] → Calls Try.prog 17 #[u] W fun x w' => x = .returned (.bool true) ∧ Below W.heap.size W w' := fun W u hu => by
    have := cRight' hu (by simp)
    simpa [hc] using this
  have HO := hid hO
  clear hO hc
  have HC : Hid (((w.alloc (.cells #[.int .i64 c.i, .int .i64 c.k, .int .i64 c.s, .int .i64 c.t, .int .i64 c.d, .int .i64 c.p, .int .i64 c.q] 25)).alloc zeroEc).heap[w.heap.size]? = some ((.cells #[.int .i64 c.i, .int .i64 c.k, .int .i64 c.s, .int .i64 c.t, .int .i64 c.d, .int .i64 c.p, .int .i64 c.q] 25))) := hid (laid2_0 w (.cells #[.int .i64 c.i, .int .i64 c.k, .int .i64 c.s, .int .i64 c.t, .int .i64 c.d, .int .i64 c.p, .int .i64 c.q] 25) zeroEc)
  have HZ : Hid (Ob ((w.alloc (.cells #[.int .i64 c.i, .int .i64 c.k, .int .i64 c.s, .int .i64 c.t, .int .i64 c.d, .int .i64 c.p, .int .i64 c.q] 25)).alloc zeroEc) (w.heap.size + 1) 30 zE) := hid (laid2_1 w (.cells #[.int .i64 c.i, .int .i64 c.k, .int .i64 c.s, .int .i64 c.t, .int .i64 c.d, .int .i64 c.p, .int .i64 c.q] 25) zeroEc)
  have HW : Hid (Below w.heap.size w ((w.alloc (.cells #[.int .i64 c.i, .int .i64 c.k, .int .i64 c.s, .int .i64 c.t, .int .i64 c.d, .int .i64 c.p, .int .i64 c.q] 25)).alloc zeroEc)) := hid (laid2_b w (.cells #[.int .i64 c.i, .int .i64 c.k, .int .i64 c.s, .int .i64 c.t, .int .i64 c.d, .int .i64 c.p, .int .i64 c.q] 25) zeroEc)
  have tok : Hid (0 = 0) := hid rfl
  go_enter Try.func22, Try.ntmps22
  go_wp2_with (first
    | (clear tok; (with_reducible refine opaqueW ((w.alloc (.cells #[.int .i64 c.i, .int .i64 c.k, .int .i64 c.s, .int .i64 c.t, .int .i64 c.d, .int .i64 c.p, .int .i64 c.q] 25)).alloc zeroEc) ?_); intro W0 hW; rw [← hW] at HC HZ HW; clear hW; have kC0 : W0.cell? ⟨w.heap.size, 0, none⟩ = some (.int .i64 c.i) := (cellAt' HC.out 0).trans rfl; have kC1 : W0.cell? ⟨w.heap.size, 1, none⟩ = some (.int .i64 c.k) := (cellAt' HC.out 1).trans rfl; have kC2 : W0.cell? ⟨w.heap.size, 2, none⟩ = some (.int .i64 c.s) := (cellAt' HC.out 2).trans rfl; have kC3 : W0.cell? ⟨w.heap.size, 3, none⟩ = some (.int .i64 c.t) := (cellAt' HC.out 3).trans rfl; have kC4 : W0.cell? ⟨w.heap.size, 4, none⟩ = some (.int .i64 c.d) := (cellAt' HC.out 4).trans rfl; have kC5 : W0.cell? ⟨w.heap.size, 5, none⟩ = some (.int .i64 c.p) := (cellAt' HC.out 5).trans rfl; have kC6 : W0.cell? ⟨w.heap.size, 6, none⟩ = some (.int .i64 c.q) := (cellAt' HC.out 6).trans rfl)
    | fail)
  go_at_call 17
  refine (HO.out _ _ (Sl.madeC (c := c) rfl)).mono ?_
  rintro x w1 ⟨rfl, hB⟩
  have GC : Hid (w1.heap[w.heap.size]? = some ((.cells #[.int .i64 c.i, .int .i64 c.k, .int .i64 c.s, .int .i64 c.t, .int .i64 c.d, .int .i64 c.p, .int .i64 c.q] 25))) := hid (heapB ((obAlloc HC.out)) hB (Array.getElem?_eq_some_iff.1 ((obAlloc HC.out))).1)
  have GZ : Hid (Ob w1 (w.heap.size + 1) 30 zE) := hid (heapB ((obAlloc HZ.out)) hB (Array.getElem?_eq_some_iff.1 ((obAlloc HZ.out))).1)
  have GW := hid (((HW.out.alloc HW.out.size _)).trans (hB.mono ((HW.out.alloc HW.out.size _)).size))
  clear kC0 kC1 kC2 kC3 kC4 kC5 kC6
  clear hB HC HZ HW
  have HC := GC; clear GC
  have HZ := GZ; clear GZ
  have HW := GW; clear GW
  have kC0 : w1.cell? ⟨w.heap.size, 0, none⟩ = some (.int .i64 c.i) := (cellAt' HC.out 0).trans rfl
  have kC1 : w1.cell? ⟨w.heap.size, 1, none⟩ = some (.int .i64 c.k) := (cellAt' HC.out 1).trans rfl
  have kC2 : w1.cell? ⟨w.heap.size, 2, none⟩ = some (.int .i64 c.s) := (cellAt' HC.out 2).trans rfl
  have kC3 : w1.cell? ⟨w.heap.size, 3, none⟩ = some (.int .i64 c.t) := (cellAt' HC.out 3).trans rfl
  have kC4 : w1.cell? ⟨w.heap.size, 4, none⟩ = some (.int .i64 c.d) := (cellAt' HC.out 4).trans rfl
  have kC5 : w1.cell? ⟨w.heap.size, 5, none⟩ = some (.int .i64 c.p) := (cellAt' HC.out 5).trans rfl
  have kC6 : w1.cell? ⟨w.heap.size, 6, none⟩ = some (.int .i64 c.q) := (cellAt' HC.out 6).trans rfl
  go_wp2_with (first
    | ((with_reducible refine storeC (x := ?sx1) (y := ?sy1) (b := ?sb1) (T := 30) (newE c) ?sg1 ?so1 ?sxx1 ?syy1 ?sc1 ?sh1); (case sg1 => rfl); (case so1 => rfl); (case sxx1 => rfl); (case syy1 => rfl); (case sc1 => exact Ob.room HZ.out); intro W9 hO hU; have GZ := hid hO; have GC : Hid (W9.heap[w.heap.size]? = some ((.cells #[.int .i64 c.i, .int .i64 c.k, .int .i64 c.s, .int .i64 c.t, .int .i64 c.d, .int .i64 c.p, .int .i64 c.q] 25))) := hid (hU.ob (HC.out) (by omega)); have GW := hid ((HW.out).trans (hU.below _ (by first | exact Nat.le_refl _ | omega))); clear hO hU; clear kC0 kC1 kC2 kC3 kC4 kC5 kC6; clear HC HZ HW; have HC := GC; clear GC; have HZ := GZ; clear GZ; have HW := GW; clear GW))
  refine bodyPost_ret (ret_cell_tmp rfl rfl rfl (HZ.out).range Try.underlying30 rfl (infoEc (newE c))) rfl ⟨rfl, HW.out⟩

abbrev aC : C7 := ⟨16, 1, 0, 17, 0, 0, 0⟩
abbrev nS : Sv := ⟨none, 0, 0⟩
abbrev aE1 : Ev := { newE aC with lo := 33, hi := 33, ft := 33 }
abbrev aE2 : Ev := { aE1 with pr := 5, hi := 48, ab := 5, xt := 48 }
theorem nilS (W : World) : Sl W nS.v [] := (Own.nil W 0).sl
theorem a_vote (W : World) : Calls Try.prog 23 #[.agg (newE aC).arr, .agg #[.int .i64 33, nS.v]] W fun x w' => x = .returned (.tuple #[.agg aE1.arr, .int .i64 0]) ∧ Below W.heap.size W w' :=
  cVote (e := newE aC) (t := 33) (p := nS) (nilS W) (nilS W) (by simp) (by simp) (by decide)
theorem a_acc (W : World) : Calls Try.prog 24 #[.agg aE1.arr, .int .i64 5, .agg #[.int .i64 48, nS.v]] W fun x w' => x = .returned (.tuple #[.agg aE2.arr, .int .i64 0]) ∧ Below W.heap.size W w' :=
  cAccept (e := aE1) (b := 5) (t := 48) (p := nS) (nilS W) (by simp) (by decide)
theorem a_prom (W : World) : Calls Try.prog 25 #[.agg aE2.arr, .int .i64 4] W fun x w' => x = .returned (.tuple #[.agg aE2.arr, .int .i64 11]) ∧ Below W.heap.size W w' := cPromise aE2 4 W
theorem a_ahead (W : World) : Calls Try.prog 26 #[.agg aE1.arr, .int .i64 34] W fun x w' => x = .returned (.bool true) ∧ Below W.heap.size W w' := cAheadE aE1 34 W
theorem a_holds (W : World) : Calls Try.prog 27 #[.agg aE1.arr, .int .i64 32] W fun x w' => x = .returned (.bool true) ∧ Below W.heap.size W w' := cHoldsE aE1 32 W
theorem a_new (W : World) : Calls Try.prog 22 #[.agg #[.int .i64 16, .int .i64 1, .int .i64 0, .int .i64 17, .int .i64 0, .int .i64 0, .int .i64 0]] W fun x w' => x = .returned (.tuple #[.agg (newE aC).arr, .int .i64 0]) ∧ Below W.heap.size W w' := cNew (c := aC) (by decide)

set_option maxHeartbeats 8000000 in
set_option maxRecDepth 100000 in
theorem cAlive6 (w : World) : Calls Try.prog 7 #[] w fun x w' => x = .returned (.bool true) ∧ Below w.heap.size w w' := by
  obtain ⟨e0, he0⟩ : ∃ x : Ev, x = newE aC := ⟨_, rfl⟩
  obtain ⟨e1, he1⟩ : ∃ x : Ev, x = aE1 := ⟨_, rfl⟩
  obtain ⟨e2, he2⟩ : ∃ x : Ev, x = aE2 := ⟨_, rfl⟩
  have hN := a_new
  have hV := a_vote
  have hA := a_acc
  have hP := a_prom
  have hH := a_ahead
  have hL := a_holds
  rw [← he0] at hN hV
  rw [← he1] at hV hA hH hL
  rw [← he2] at hA hP
  have h8 : e2.list[8]? = some (.int .i64 33) := by rw [he2]; rfl
  have h9 : e2.list[9]? = some (.int .i64 48) := by rw [he2]; rfl
  have h7 : e2.list[7]? = some (.int .i64 5) := by rw [he2]; rfl
  have h16 : e1.list[16]? = some (.bool false) := by rw [he1]; rfl
  have h12 : e1.list[12]? = some (.int .i64 0) := by rw [he1]; rfl
  have H7 := hid h7
  have H8 := hid h8
  have H9 := hid h9
  have H16 := hid h16
  have H12 := hid h12
  clear he0 he1 he2 h7 h8 h9 h16 h12
  go_enter Try.func7, Try.ntmps7
  go_wp2_with fail
  go_at_call 22
  refine (hN _).mono ?_
  rintro x w1 ⟨rfl, hB⟩
  have HW := hid hB
  clear hB
  have ltwA : w.heap.size ≤ w1.heap.size := (HW.out).size
  have RA : Room (w1.alloc zeroEc) w1.heap.size 30 := ⟨_, heap_alloc_new w1 zeroEc, rfl⟩
  go_wp2_with (first
    | ((with_reducible refine uponStore (e := e0) (RA) ?_); intro w2 hO hU; have GA := hid hO; have GW := hid ((((HW.out).alloc (HW.out).size _)).trans (hU.below _ (by first | exact Nat.le_refl _ | omega))); clear hO hU; clear  HW; have HA := GA; clear GA; have HW := GW; clear GW)
    | ((with_reducible refine loadC (x := ?lx2) (b := ?lb2) (T := 30) e0 ?lg2 ?lo2 ?lxx2 ?lc2 ?lh2); (case lg2 => rfl); (case lo2 => rfl); (case lxx2 => rfl); (case lc2 => exact HA.out)))
  go_at_call 23
  refine (hV _).mono ?_
  rintro x w3 ⟨rfl, hB⟩
  have GA : Hid (Ob w3 (w1.heap.size) 30 e0) := hid (heapB (HA.out) hB (Array.getElem?_eq_some_iff.1 (HA.out)).1)
  have GW := hid ((HW.out).trans (hB.mono (HW.out).size))
  clear hB HA HW
  have HA := GA; clear GA
  have HW := GW; clear GW
  have ltBA : w1.heap.size < w3.heap.size := (Array.getElem?_eq_some_iff.1 (HA.out)).1
  have ltwB : w.heap.size ≤ w3.heap.size := (HW.out).size
  have RB : Room (w3.alloc zeroEc) w3.heap.size 30 := ⟨_, heap_alloc_new w3 zeroEc, rfl⟩
  go_wp2_with (first
    | ((with_reducible refine uponStore (e := e1) (RB) ?_); intro w4 hO hU; have GB := hid hO; have GA : Hid (Ob w4 (w1.heap.size) 30 e0) := hid (hU.ob ((obAlloc HA.out)) (by omega)); have GW := hid ((((HW.out).alloc (HW.out).size _)).trans (hU.below _ (by first | exact Nat.le_refl _ | omega))); clear hO hU; clear HA HW; have HA := GA; clear GA; have HB := GB; clear GB; have HW := GW; clear GW)
    | ((with_reducible refine loadC (x := ?lx3) (b := ?lb3) (T := 30) e1 ?lg3 ?lo3 ?lxx3 ?lc3 ?lh3); (case lg3 => rfl); (case lo3 => rfl); (case lxx3 => rfl); (case lc3 => exact HB.out)))
  go_at_call 24
  refine (hA _).mono ?_
  rintro x w5 ⟨rfl, hB⟩
  have GA : Hid (Ob w5 (w1.heap.size) 30 e0) := hid (heapB (HA.out) hB (Array.getElem?_eq_some_iff.1 (HA.out)).1)
  have GB : Hid (Ob w5 (w3.heap.size) 30 e1) := hid (heapB (HB.out) hB (Array.getElem?_eq_some_iff.1 (HB.out)).1)
  have GW := hid ((HW.out).trans (hB.mono (HW.out).size))
  clear hB HA HB HW
  have HA := GA; clear GA
  have HB := GB; clear GB
  have HW := GW; clear GW
  have ltCA : w1.heap.size < w5.heap.size := (Array.getElem?_eq_some_iff.1 (HA.out)).1
  have ltCB : w3.heap.size < w5.heap.size := (Array.getElem?_eq_some_iff.1 (HB.out)).1
  have ltwC : w.heap.size ≤ w5.heap.size := (HW.out).size
  have RC : Room (w5.alloc zeroEc) w5.heap.size 30 := ⟨_, heap_alloc_new w5 zeroEc, rfl⟩
  go_wp2_with (first
    | ((with_reducible refine uponStore (e := e2) (RC) ?_); intro w6 hO hU; have GC := hid hO; have GA : Hid (Ob w6 (w1.heap.size) 30 e0) := hid (hU.ob ((obAlloc HA.out)) (by omega)); have GB : Hid (Ob w6 (w3.heap.size) 30 e1) := hid (hU.ob ((obAlloc HB.out)) (by omega)); have GW := hid ((((HW.out).alloc (HW.out).size _)).trans (hU.below _ (by first | exact Nat.le_refl _ | omega))); clear hO hU; clear HA HB HW; have HA := GA; clear GA; have HB := GB; clear GB; have HC := GC; clear GC; have HW := GW; clear GW)
    | ((with_reducible refine loadC (x := ?lx4) (b := ?lb4) (T := 30) e2 ?lg4 ?lo4 ?lxx4 ?lc4 ?lh4); (case lg4 => rfl); (case lo4 => rfl); (case lxx4 => rfl); (case lc4 => exact HC.out)))
  go_at_call 25
  refine (hP _).mono ?_
  rintro x w7 ⟨rfl, hB⟩
  have GA : Hid (Ob w7 (w1.heap.size) 30 e0) := hid (heapB (HA.out) hB (Array.getElem?_eq_some_iff.1 (HA.out)).1)
  have GB : Hid (Ob w7 (w3.heap.size) 30 e1) := hid (heapB (HB.out) hB (Array.getElem?_eq_some_iff.1 (HB.out)).1)
  have GC : Hid (Ob w7 (w5.heap.size) 30 e2) := hid (heapB (HC.out) hB (Array.getElem?_eq_some_iff.1 (HC.out)).1)
  have GW := hid ((HW.out).trans (hB.mono (HW.out).size))
  clear hB HA HB HC HW
  have HA := GA; clear GA
  have HB := GB; clear GB
  have HC := GC; clear GC
  have HW := GW; clear GW
  have ltDA : w1.heap.size < w7.heap.size := (Array.getElem?_eq_some_iff.1 (HA.out)).1
  have ltDB : w3.heap.size < w7.heap.size := (Array.getElem?_eq_some_iff.1 (HB.out)).1
  have ltDC : w5.heap.size < w7.heap.size := (Array.getElem?_eq_some_iff.1 (HC.out)).1
  have ltwD : w.heap.size ≤ w7.heap.size := (HW.out).size
  have RD : Room (w7.alloc zeroEc) w7.heap.size 30 := ⟨_, heap_alloc_new w7 zeroEc, rfl⟩
  go_wp2_with (first
    | ((with_reducible refine uponStore (e := e2) (RD) ?_); intro w8 hO hU; have GD := hid hO; have GA : Hid (Ob w8 (w1.heap.size) 30 e0) := hid (hU.ob ((obAlloc HA.out)) (by omega)); have GB : Hid (Ob w8 (w3.heap.size) 30 e1) := hid (hU.ob ((obAlloc HB.out)) (by omega)); have GC : Hid (Ob w8 (w5.heap.size) 30 e2) := hid (hU.ob ((obAlloc HC.out)) (by omega)); have GW := hid ((((HW.out).alloc (HW.out).size _)).trans (hU.below _ (by first | exact Nat.le_refl _ | omega))); clear hO hU; clear HA HB HC HW; have HA := GA; clear GA; have HB := GB; clear GB; have HC := GC; clear GC; have HD := GD; clear GD; have HW := GW; clear GW; have k8 : w8.cell? ⟨w5.heap.size, 8, none⟩ = some (.int .i64 33) := (HC.out).cell H8.out; have k9 : w8.cell? ⟨w5.heap.size, 9, none⟩ = some (.int .i64 48) := (HC.out).cell H9.out; have k7 : w8.cell? ⟨w5.heap.size, 7, none⟩ = some (.int .i64 5) := (HC.out).cell H7.out; have k16 : w8.cell? ⟨w3.heap.size, 16, none⟩ = some (.bool false) := (HB.out).cell H16.out; have k12 : w8.cell? ⟨w3.heap.size, 12, none⟩ = some (.int .i64 0) := (HB.out).cell H12.out)
    | ((with_reducible refine loadGC (x := ?lx5) (b := ?lb5) (T := 30) e1 ?lg5 ?lo5 ?lxx5 ?lc5 ?lh5); (case lo5 => rfl); (case lg5 => rfl); (case lxx5 => rfl); (case lc5 => exact HB.out))
    | fail)
  go_at_call 26
  refine (hH _).mono ?_
  rintro x w9 ⟨rfl, hB⟩
  have GA : Hid (Ob w9 (w1.heap.size) 30 e0) := hid (heapB (HA.out) hB (Array.getElem?_eq_some_iff.1 (HA.out)).1)
  have GB : Hid (Ob w9 (w3.heap.size) 30 e1) := hid (heapB (HB.out) hB (Array.getElem?_eq_some_iff.1 (HB.out)).1)
  have GC : Hid (Ob w9 (w5.heap.size) 30 e2) := hid (heapB (HC.out) hB (Array.getElem?_eq_some_iff.1 (HC.out)).1)
  have GD : Hid (Ob w9 (w7.heap.size) 30 e2) := hid (heapB (HD.out) hB (Array.getElem?_eq_some_iff.1 (HD.out)).1)
  have GW := hid ((HW.out).trans (hB.mono (HW.out).size))
  clear k7 k8 k9 k16 k12
  clear hB HA HB HC HD HW
  have HA := GA; clear GA
  have HB := GB; clear GB
  have HC := GC; clear GC
  have HD := GD; clear GD
  have HW := GW; clear GW
  have k8 : w9.cell? ⟨w5.heap.size, 8, none⟩ = some (.int .i64 33) := (HC.out).cell H8.out
  have k9 : w9.cell? ⟨w5.heap.size, 9, none⟩ = some (.int .i64 48) := (HC.out).cell H9.out
  have k7 : w9.cell? ⟨w5.heap.size, 7, none⟩ = some (.int .i64 5) := (HC.out).cell H7.out
  have k16 : w9.cell? ⟨w3.heap.size, 16, none⟩ = some (.bool false) := (HB.out).cell H16.out
  have k12 : w9.cell? ⟨w3.heap.size, 12, none⟩ = some (.int .i64 0) := (HB.out).cell H12.out
  go_wp2_with (first
    | ((with_reducible refine loadGC (x := ?lx6) (b := ?lb6) (T := 30) e1 ?lg6 ?lo6 ?lxx6 ?lc6 ?lh6); (case lo6 => rfl); (case lg6 => rfl); (case lxx6 => rfl); (case lc6 => exact HB.out))
    | fail)
  go_at_call 27
  refine (hL _).mono ?_
  rintro x w10 ⟨rfl, hB⟩
  have GA : Hid (Ob w10 (w1.heap.size) 30 e0) := hid (heapB (HA.out) hB (Array.getElem?_eq_some_iff.1 (HA.out)).1)
  have GB : Hid (Ob w10 (w3.heap.size) 30 e1) := hid (heapB (HB.out) hB (Array.getElem?_eq_some_iff.1 (HB.out)).1)
  have GC : Hid (Ob w10 (w5.heap.size) 30 e2) := hid (heapB (HC.out) hB (Array.getElem?_eq_some_iff.1 (HC.out)).1)
  have GD : Hid (Ob w10 (w7.heap.size) 30 e2) := hid (heapB (HD.out) hB (Array.getElem?_eq_some_iff.1 (HD.out)).1)
  have GW := hid ((HW.out).trans (hB.mono (HW.out).size))
  clear k7 k8 k9 k16 k12
  clear hB HA HB HC HD HW
  have HA := GA; clear GA
  have HB := GB; clear GB
  have HC := GC; clear GC
  have HD := GD; clear GD
  have HW := GW; clear GW
  have k8 : w10.cell? ⟨w5.heap.size, 8, none⟩ = some (.int .i64 33) := (HC.out).cell H8.out
  have k9 : w10.cell? ⟨w5.heap.size, 9, none⟩ = some (.int .i64 48) := (HC.out).cell H9.out
  have k7 : w10.cell? ⟨w5.heap.size, 7, none⟩ = some (.int .i64 5) := (HC.out).cell H7.out
  have k16 : w10.cell? ⟨w3.heap.size, 16, none⟩ = some (.bool false) := (HB.out).cell H16.out
  have k12 : w10.cell? ⟨w3.heap.size, 12, none⟩ = some (.int .i64 0) := (HB.out).cell H12.out
  go_wp2_with fail
  go_ret
  exact ⟨rfl, HW.out⟩
end Go.Proofs.Ytmndjdaiailgmaa
/- An entry of bytes: the program's Decode. -/
namespace Go.Proofs.Ytmndjdaiailgmaa
set_option linter.unusedVariables false
open Go.RowKit
open Go.Lib (hid)

theorem cNumX {F : Nat → Prop} {p : Nat} {s s' : St} {n : Nat} {w : World} (hs : numS s = (n, s')) (h : Rd 98 F w p s) : Calls Try.prog 48 #[.pointer (some ⟨p, 0, none⟩)] w fun x w' => x = .returned (.int .i64 n) ∧ Rd 98 F w' p s' ∧ w.grownBy w' (some p) := by
  have := cNum h
  rw [hs] at this
  exact this
theorem cCmdX {F : Nat → Prop} {p : Nat} {s s' : St} {c : C7} {w : World} (hs : cmdS s = (c, s')) (h : Rd 98 F w p s) (hF : ∀ k, F k → k < w.heap.size) : Calls Try.prog 47 #[.pointer (some ⟨p, 0, none⟩)] w fun x w' => x = .returned (.agg #[.int .i64 c.i, .int .i64 c.k, .int .i64 c.s, .int .i64 c.t, .int .i64 c.d, .int .i64 c.p, .int .i64 c.q]) ∧ Rd 98 F w' p s' ∧ w.grownBy w' (some p) := by
  have := cCmd' h hF
  rw [hs] at this
  exact this
theorem cValueX {F : Nat → Prop} {p : Nat} {s s' : St} {t : Nat} {l : List C7} {w : World} (hs : valueS s = ((t, l), s')) (h : Rd 98 F w p s) (hF : ∀ k, F k → k < w.heap.size) : Calls Try.prog 49 #[.pointer (some ⟨p, 0, none⟩)] w fun x w' => ∃ g c n, x = .returned (.agg #[.int .i64 t, .slice g n c]) ∧ Own w' w.heap.size (.slice g n c) l ∧ Rd 98 F w' p s' ∧ w.grownBy w' (some p) := by
  have := cValue h hF
  rw [hs] at this
  refine this.mono ?_
  rintro x w' ⟨r, rfl, ho, hr, hg⟩
  obtain ⟨g, c, n, rfl, _⟩ := ho.asSlice
  exact ⟨g, c, n, rfl, ho, hr, hg⟩
/-- What the program's Decode, the document's Parse, answer. -/
def DecPost (t : Tk) (w : World) (x : Ending) (w' : World) : Prop := ∃ (E : Ev) (p q r : Sv), x = .returned (.tuple #[.agg E.arr, .int .i64 (if t.good = true then 0 else 2)]) ∧ (t.good = true → E = t.ev p q r ∧ Sl w' p.v t.f.2 ∧ Sl w' q.v t.a.2 ∧ Sl w' r.v t.v.2) ∧ (t.good = false → E = zE) ∧ Below w.heap.size w w'
theorem DecPost.no {t : Tk} {w w' : World} (h : t.good = false) (hb : Below w.heap.size w w') : DecPost t w (.returned (.tuple #[.agg zE.list.toArray, .int .i64 2])) w' :=
  ⟨zE, ⟨none, 0, 0⟩, ⟨none, 0, 0⟩, ⟨none, 0, 0⟩, by rw [h]; rfl, fun hh => absurd hh (by rw [h]; simp), fun _ => rfl, hb⟩
theorem DecPost.yes {t : Tk} {w w' : World} {E : Ev} {p q r : Sv} (h : t.good = true) (hE : E = t.ev p q r) (h1 : Sl w' p.v t.f.2) (h2 : Sl w' q.v t.a.2) (h3 : Sl w' r.v t.v.2) (hb : Below w.heap.size w w') : DecPost t w (.returned (.tuple #[.agg E.list.toArray, .int .i64 0])) w' :=
  ⟨E, p, q, r, by rw [h]; rfl, fun _ => ⟨hE, h1, h2, h3⟩, fun hh => absurd h (by rw [hh]; simp), hb⟩
theorem ownUpd {w W : World} {B k : Nat} {v : Value} {cs : List C7} (h : Own w B v cs) (hU : Upd k w W) (hk : k < B) : Own W B v cs := by
  refine ⟨h.1, ?_⟩
  rcases h.2 with h2 | ⟨g, cap, cur, rfl, h1, hg, r⟩
  · exact .inl h2
  · exact .inr ⟨g, cap, cur, rfl, h1, hU.ob hg (by omega), r⟩
theorem beq_dec (n : Nat) : ((n : Int) == 1) = decide (n = 1) := by
  rw [Bool.eq_iff_iff]; simp; omega
theorem valueS_short (s : St) : (valueS s).1.2.length ≤ 1024 := by
  by_cases h : (valueS s).2.2 = 0
  · exact (setB_ok (valueS_ok h).2.2.1).2
  · rw [valueS_bad h]; simp
theorem take_rest {bs : List UInt8} (h : (takeE (bs, 0)).s.2 = 0) : (takeE (bs, 0)).s.1.length ≤ bs.length := by
  have k9 := valueS_ok (s := st9 (bs, 0)) h
  have k8 := numS_ok (s := st8 (bs, 0)) k9.1
  have k7 := numS_ok (s := st7 (bs, 0)) k8.1
  have k6 := valueS_ok (s := st6 (bs, 0)) k7.1
  have k5 := numS_ok (s := st5 (bs, 0)) k6.1
  have k4 := valueS_ok (s := st4 (bs, 0)) k5.1
  have k3 := numS_ok (s := st3 (bs, 0)) k4.1
  have k2 := numS_ok (s := st2 (bs, 0)) k3.1
  have k1 := numS_ok (s := st1 (bs, 0)) k2.1
  have k0 := cmdS_ok (s := (bs, 0)) k1.1
  have e0 := congrArg List.length k0.2.2
  have e1 := congrArg List.length (show (cmdS (bs, 0)).2.1 = _ from k1.2.2)
  have e2 := congrArg List.length (show (numS (st1 (bs, 0))).2.1 = _ from k2.2.2)
  have e3 := congrArg List.length (show (numS (st2 (bs, 0))).2.1 = _ from k3.2.2)
  have e4 := congrArg List.length (show (numS (st3 (bs, 0))).2.1 = _ from k4.2.2.2)
  have e5 := congrArg List.length (show (valueS (st4 (bs, 0))).2.1 = _ from k5.2.2)
  have e6 := congrArg List.length (show (numS (st5 (bs, 0))).2.1 = _ from k6.2.2.2)
  have e7 := congrArg List.length (show (valueS (st6 (bs, 0))).2.1 = _ from k7.2.2)
  have e8 := congrArg List.length (show (numS (st7 (bs, 0))).2.1 = _ from k8.2.2)
  have e9 := congrArg List.length (show (numS (st8 (bs, 0))).2.1 = _ from k9.2.2.2)
  simp only [List.length_append] at e0 e1 e2 e3 e4 e5 e6 e7 e8 e9
  show (valueS (st9 (bs, 0))).2.1.length ≤ bs.length
  omega
theorem obGrow {w w' : World} {q p : Nat} {o : Obj} (h : w.heap[q]? = some o) (hg : w.grownBy w' (some p)) (hne : q ≠ p) : w'.heap[q]? = some o := heapOf h hg hne
theorem rdSet {T : TypeId} {F : Nat → Prop} {w : World} {p q j : Nat} {s : St} {v : Value} (h : Rd T F w p s) (hq : q ≠ p) (hF : ¬ F q) : Rd T F (w.setCell ⟨q, j, none⟩ v) p s := h.keptN (grownSet w ⟨q, j, none⟩ v) (fun k hk => by cases hk; exact ⟨hq, hF⟩)
theorem ownSet {w : World} {B q j : Nat} {v u : Value} {cs : List C7} (h : Own w B v cs) (hq : q < B) : Own (w.setCell ⟨q, j, none⟩ u) B v cs := h.kept' (grownSet w ⟨q, j, none⟩ u) hq

set_option maxHeartbeats 8000000 in
set_option maxRecDepth 100000 in
theorem cDecode {vb : Value} {bs : List UInt8} {w : World} (h : SlB w vb bs) (hl : bs.length ≤ 1000000) :
    Calls Try.prog 13 #[vb] w fun x w' => DecPost (takeE (bs, 0)) w x w' := by
  obtain ⟨c, s1, h0⟩ : ∃ c s1, cmdS (bs, 0) = (c, s1) := ⟨_, _, rfl⟩
  obtain ⟨a1, s2, h1⟩ : ∃ n s', numS s1 = (n, s') := ⟨_, _, rfl⟩
  obtain ⟨a2, s3, h2⟩ : ∃ n s', numS s2 = (n, s') := ⟨_, _, rfl⟩
  obtain ⟨a3, s4, h3⟩ : ∃ n s', numS s3 = (n, s') := ⟨_, _, rfl⟩
  obtain ⟨a4, l4, s5, h4⟩ : ∃ t l s', valueS s4 = ((t, l), s') := ⟨_, _, _, rfl⟩
  obtain ⟨a5, s6, h5⟩ : ∃ n s', numS s5 = (n, s') := ⟨_, _, rfl⟩
  obtain ⟨a6, l6, s7, h6⟩ : ∃ t l s', valueS s6 = ((t, l), s') := ⟨_, _, _, rfl⟩
  obtain ⟨a7, s8, h7⟩ : ∃ n s', numS s7 = (n, s') := ⟨_, _, rfl⟩
  obtain ⟨a8, s9, h8⟩ : ∃ n s', numS s8 = (n, s') := ⟨_, _, rfl⟩
  obtain ⟨a9, l9, s10, h9⟩ : ∃ t l s', valueS s9 = ((t, l), s') := ⟨_, _, _, rfl⟩
  have hT : takeE (bs, 0) = ⟨c, a1, a2, a3, (a4, l4), a5, (a6, l6), a7, a8, (a9, l9), s10⟩ := by
    unfold takeE st10 st9 st8 st7 st6 st5 st4 st3 st2 st1
    simp only [h0, h1, h2, h3, h4, h5, h6, h7, h8, h9]
  rw [hT]
  have HT := hid hT
  have HH := hid (And.intro h0 (And.intro h1 (And.intro h2 (And.intro h3 (And.intro h4 (And.intro h5 (And.intro h6 (And.intro h7 (And.intro h8 h9)))))))))
  clear hT h0 h1 h2 h3 h4 h5 h6 h7 h8 h9
  go_enter Try.func13, Try.ntmps13
  go_wp2_with fail
  go_at_call 46
  refine (cRead (h.on ((Below.refl _ w).alloc (Nat.le_refl _) zeroEc)) hl).mono ?_
  rintro x w1 ⟨p, rfl, hp0, hp1, hr, hB⟩
  have hz0 : Ob (w.alloc zeroEc) w.heap.size 30 zE := heap_alloc_new w zeroEc
  have hB1 := ((Below.refl _ w).alloc (Nat.le_refl _) zeroEc).trans (hB.mono (by simp))
  have hz1 : Ob w1 w.heap.size 30 zE := heapB hz0 hB (by simp)
  have hsz := hB.size
  simp only [World.size_alloc] at hp0 hsz
  obtain ⟨F, hFe⟩ : ∃ F : Nat → Prop, F = (fun k => (w.alloc zeroEc).heap.size ≤ k ∧ k < p) := ⟨_, rfl⟩
  rw [← hFe] at hr
  obtain ⟨q, hq⟩ : ∃ q, q = w1.heap.size := ⟨_, rfl⟩
  have hFp : Hid (∀ k, F k → k < p) := hid (fun k hk => by rw [hFe] at hk; exact hk.2)
  have hzq : Hid (w.heap.size ≠ q) := hid (by omega)
  have hzp : Hid (w.heap.size ≠ p) := hid (by omega)
  have hqp : Hid (q ≠ p) := hid (by omega)
  have hqF : Hid (¬ F q) := hid (fun hk => by have := hFp.out q hk; omega)
  have hqw : Hid (w.heap.size ≤ q) := hid (by omega)
  have hpw : Hid (w.heap.size ≤ p) := hid (by omega)
  have HZ : Hid (Ob (w1.alloc zeroEc) w.heap.size 30 zE) := hid (obAlloc hz1)
  have HX : Hid (Ob (w1.alloc zeroEc) q 30 zE) := hid (by rw [hq]; exact heap_alloc_new w1 zeroEc)
  have HR : Hid (Rd 98 F (w1.alloc zeroEc) p (bs, 0)) := hid (hr.alloc _)
  have HW : Hid (Below w.heap.size w (w1.alloc zeroEc)) := hid (hB1.alloc hB1.size _)
  have hF := fun k (hk : F k) => Nat.lt_of_lt_of_le (hFp.out k hk) (Nat.le_of_lt HR.out.lt)
  clear hz0 hz1 hB1 hB hr hp0 hp1 hsz hFe
  go_wp2_with fail
  rw [← hq]
  clear hq
  go_at_call 47
  refine (cCmdX HH.out.1 HR.out hF).mono ?_
  rintro x w2 ⟨rfl, hr, hg⟩
  clear hF
  have GZ := hid (obGrow HZ.out hg hzp.out)
  have GX := hid (obGrow HX.out hg hqp.out)
  have GR := hid hr
  have GW := hid (HW.out.grown hg HW.out.size (fun k hk => by cases hk; exact hpw.out))
  clear hr hg
  clear HZ HX HR HW
  have HZ := GZ; clear GZ
  have HX := GX; clear GX
  have HR := GR; clear GR
  have HW := GW; clear GW
  have hF := fun k (hk : F k) => Nat.lt_of_lt_of_le (hFp.out k hk) (Nat.le_of_lt HR.out.lt)
  have k0 : w2.cell? ⟨q, 0, none⟩ = some (.int .i64 0) := Ob.cell (e := (⟨⟨0, 0, 0, 0, 0, 0, 0⟩, 0, 0, 0, 0, ⟨none, 0, 0⟩, 0, 0, ⟨none, 0, 0⟩, false, false, 0, ⟨none, 0, 0⟩⟩ : Ev)) HX.out (j := 0) rfl
  have z0 : w2.frozen? ⟨q, 0, none⟩ = false := Ob.free (e := (⟨⟨0, 0, 0, 0, 0, 0, 0⟩, 0, 0, 0, 0, ⟨none, 0, 0⟩, 0, 0, ⟨none, 0, 0⟩, false, false, 0, ⟨none, 0, 0⟩⟩ : Ev)) HX.out 0
  have k1 : w2.cell? ⟨q, 1, none⟩ = some (.int .i64 0) := Ob.cell (e := (⟨⟨0, 0, 0, 0, 0, 0, 0⟩, 0, 0, 0, 0, ⟨none, 0, 0⟩, 0, 0, ⟨none, 0, 0⟩, false, false, 0, ⟨none, 0, 0⟩⟩ : Ev)) HX.out (j := 1) rfl
  have z1 : w2.frozen? ⟨q, 1, none⟩ = false := Ob.free (e := (⟨⟨0, 0, 0, 0, 0, 0, 0⟩, 0, 0, 0, 0, ⟨none, 0, 0⟩, 0, 0, ⟨none, 0, 0⟩, false, false, 0, ⟨none, 0, 0⟩⟩ : Ev)) HX.out 1
  have k2 : w2.cell? ⟨q, 2, none⟩ = some (.int .i64 0) := Ob.cell (e := (⟨⟨0, 0, 0, 0, 0, 0, 0⟩, 0, 0, 0, 0, ⟨none, 0, 0⟩, 0, 0, ⟨none, 0, 0⟩, false, false, 0, ⟨none, 0, 0⟩⟩ : Ev)) HX.out (j := 2) rfl
  have z2 : w2.frozen? ⟨q, 2, none⟩ = false := Ob.free (e := (⟨⟨0, 0, 0, 0, 0, 0, 0⟩, 0, 0, 0, 0, ⟨none, 0, 0⟩, 0, 0, ⟨none, 0, 0⟩, false, false, 0, ⟨none, 0, 0⟩⟩ : Ev)) HX.out 2
  have k3 : w2.cell? ⟨q, 3, none⟩ = some (.int .i64 0) := Ob.cell (e := (⟨⟨0, 0, 0, 0, 0, 0, 0⟩, 0, 0, 0, 0, ⟨none, 0, 0⟩, 0, 0, ⟨none, 0, 0⟩, false, false, 0, ⟨none, 0, 0⟩⟩ : Ev)) HX.out (j := 3) rfl
  have z3 : w2.frozen? ⟨q, 3, none⟩ = false := Ob.free (e := (⟨⟨0, 0, 0, 0, 0, 0, 0⟩, 0, 0, 0, 0, ⟨none, 0, 0⟩, 0, 0, ⟨none, 0, 0⟩, false, false, 0, ⟨none, 0, 0⟩⟩ : Ev)) HX.out 3
  have k4 : w2.cell? ⟨q, 4, none⟩ = some (.int .i64 0) := Ob.cell (e := (⟨⟨0, 0, 0, 0, 0, 0, 0⟩, 0, 0, 0, 0, ⟨none, 0, 0⟩, 0, 0, ⟨none, 0, 0⟩, false, false, 0, ⟨none, 0, 0⟩⟩ : Ev)) HX.out (j := 4) rfl
  have z4 : w2.frozen? ⟨q, 4, none⟩ = false := Ob.free (e := (⟨⟨0, 0, 0, 0, 0, 0, 0⟩, 0, 0, 0, 0, ⟨none, 0, 0⟩, 0, 0, ⟨none, 0, 0⟩, false, false, 0, ⟨none, 0, 0⟩⟩ : Ev)) HX.out 4
  have k5 : w2.cell? ⟨q, 5, none⟩ = some (.int .i64 0) := Ob.cell (e := (⟨⟨0, 0, 0, 0, 0, 0, 0⟩, 0, 0, 0, 0, ⟨none, 0, 0⟩, 0, 0, ⟨none, 0, 0⟩, false, false, 0, ⟨none, 0, 0⟩⟩ : Ev)) HX.out (j := 5) rfl
  have z5 : w2.frozen? ⟨q, 5, none⟩ = false := Ob.free (e := (⟨⟨0, 0, 0, 0, 0, 0, 0⟩, 0, 0, 0, 0, ⟨none, 0, 0⟩, 0, 0, ⟨none, 0, 0⟩, false, false, 0, ⟨none, 0, 0⟩⟩ : Ev)) HX.out 5
  have k6 : w2.cell? ⟨q, 6, none⟩ = some (.int .i64 0) := Ob.cell (e := (⟨⟨0, 0, 0, 0, 0, 0, 0⟩, 0, 0, 0, 0, ⟨none, 0, 0⟩, 0, 0, ⟨none, 0, 0⟩, false, false, 0, ⟨none, 0, 0⟩⟩ : Ev)) HX.out (j := 6) rfl
  have z6 : w2.frozen? ⟨q, 6, none⟩ = false := Ob.free (e := (⟨⟨0, 0, 0, 0, 0, 0, 0⟩, 0, 0, 0, 0, ⟨none, 0, 0⟩, 0, 0, ⟨none, 0, 0⟩, false, false, 0, ⟨none, 0, 0⟩⟩ : Ev)) HX.out 6
  go_wp2_with fail
  have GZ := hid (setOther (q := q) (j := 6) (v := .int .i64 c.q) (setOther (q := q) (j := 5) (v := .int .i64 c.p) (setOther (q := q) (j := 4) (v := .int .i64 c.d) (setOther (q := q) (j := 3) (v := .int .i64 c.t) (setOther (q := q) (j := 2) (v := .int .i64 c.s) (setOther (q := q) (j := 1) (v := .int .i64 c.k) (setOther (q := q) (j := 0) (v := .int .i64 c.i) HZ.out hzq.out) hzq.out) hzq.out) hzq.out) hzq.out) hzq.out) hzq.out)
  have GX := hid (Ob.set (e := (⟨⟨c.i, c.k, c.s, c.t, c.d, c.p, 0⟩, 0, 0, 0, 0, ⟨none, 0, 0⟩, 0, 0, ⟨none, 0, 0⟩, false, false, 0, ⟨none, 0, 0⟩⟩ : Ev)) (T := 30) (Ob.set (e := (⟨⟨c.i, c.k, c.s, c.t, c.d, 0, 0⟩, 0, 0, 0, 0, ⟨none, 0, 0⟩, 0, 0, ⟨none, 0, 0⟩, false, false, 0, ⟨none, 0, 0⟩⟩ : Ev)) (T := 30) (Ob.set (e := (⟨⟨c.i, c.k, c.s, c.t, 0, 0, 0⟩, 0, 0, 0, 0, ⟨none, 0, 0⟩, 0, 0, ⟨none, 0, 0⟩, false, false, 0, ⟨none, 0, 0⟩⟩ : Ev)) (T := 30) (Ob.set (e := (⟨⟨c.i, c.k, c.s, 0, 0, 0, 0⟩, 0, 0, 0, 0, ⟨none, 0, 0⟩, 0, 0, ⟨none, 0, 0⟩, false, false, 0, ⟨none, 0, 0⟩⟩ : Ev)) (T := 30) (Ob.set (e := (⟨⟨c.i, c.k, 0, 0, 0, 0, 0⟩, 0, 0, 0, 0, ⟨none, 0, 0⟩, 0, 0, ⟨none, 0, 0⟩, false, false, 0, ⟨none, 0, 0⟩⟩ : Ev)) (T := 30) (Ob.set (e := (⟨⟨c.i, 0, 0, 0, 0, 0, 0⟩, 0, 0, 0, 0, ⟨none, 0, 0⟩, 0, 0, ⟨none, 0, 0⟩, false, false, 0, ⟨none, 0, 0⟩⟩ : Ev)) (T := 30) (Ob.set (e := (⟨⟨0, 0, 0, 0, 0, 0, 0⟩, 0, 0, 0, 0, ⟨none, 0, 0⟩, 0, 0, ⟨none, 0, 0⟩, false, false, 0, ⟨none, 0, 0⟩⟩ : Ev)) (T := 30) HX.out (j := 0) (v := .int .i64 c.i) (e' := (⟨⟨c.i, 0, 0, 0, 0, 0, 0⟩, 0, 0, 0, 0, ⟨none, 0, 0⟩, 0, 0, ⟨none, 0, 0⟩, false, false, 0, ⟨none, 0, 0⟩⟩ : Ev)) rfl) (j := 1) (v := .int .i64 c.k) (e' := (⟨⟨c.i, c.k, 0, 0, 0, 0, 0⟩, 0, 0, 0, 0, ⟨none, 0, 0⟩, 0, 0, ⟨none, 0, 0⟩, false, false, 0, ⟨none, 0, 0⟩⟩ : Ev)) rfl) (j := 2) (v := .int .i64 c.s) (e' := (⟨⟨c.i, c.k, c.s, 0, 0, 0, 0⟩, 0, 0, 0, 0, ⟨none, 0, 0⟩, 0, 0, ⟨none, 0, 0⟩, false, false, 0, ⟨none, 0, 0⟩⟩ : Ev)) rfl) (j := 3) (v := .int .i64 c.t) (e' := (⟨⟨c.i, c.k, c.s, c.t, 0, 0, 0⟩, 0, 0, 0, 0, ⟨none, 0, 0⟩, 0, 0, ⟨none, 0, 0⟩, false, false, 0, ⟨none, 0, 0⟩⟩ : Ev)) rfl) (j := 4) (v := .int .i64 c.d) (e' := (⟨⟨c.i, c.k, c.s, c.t, c.d, 0, 0⟩, 0, 0, 0, 0, ⟨none, 0, 0⟩, 0, 0, ⟨none, 0, 0⟩, false, false, 0, ⟨none, 0, 0⟩⟩ : Ev)) rfl) (j := 5) (v := .int .i64 c.p) (e' := (⟨⟨c.i, c.k, c.s, c.t, c.d, c.p, 0⟩, 0, 0, 0, 0, ⟨none, 0, 0⟩, 0, 0, ⟨none, 0, 0⟩, false, false, 0, ⟨none, 0, 0⟩⟩ : Ev)) rfl) (j := 6) (v := .int .i64 c.q) (e' := (⟨c, 0, 0, 0, 0, ⟨none, 0, 0⟩, 0, 0, ⟨none, 0, 0⟩, false, false, 0, ⟨none, 0, 0⟩⟩ : Ev)) rfl)
  have GR := hid (rdSet (q := q) (j := 6) (v := .int .i64 c.q) (rdSet (q := q) (j := 5) (v := .int .i64 c.p) (rdSet (q := q) (j := 4) (v := .int .i64 c.d) (rdSet (q := q) (j := 3) (v := .int .i64 c.t) (rdSet (q := q) (j := 2) (v := .int .i64 c.s) (rdSet (q := q) (j := 1) (v := .int .i64 c.k) (rdSet (q := q) (j := 0) (v := .int .i64 c.i) HR.out hqp.out hqF.out) hqp.out hqF.out) hqp.out hqF.out) hqp.out hqF.out) hqp.out hqF.out) hqp.out hqF.out) hqp.out hqF.out)
  have GW := hid (((((((HW.out.setCell (p := ⟨q, 0, none⟩) hqw.out (.int .i64 c.i)).setCell (p := ⟨q, 1, none⟩) hqw.out (.int .i64 c.k)).setCell (p := ⟨q, 2, none⟩) hqw.out (.int .i64 c.s)).setCell (p := ⟨q, 3, none⟩) hqw.out (.int .i64 c.t)).setCell (p := ⟨q, 4, none⟩) hqw.out (.int .i64 c.d)).setCell (p := ⟨q, 5, none⟩) hqw.out (.int .i64 c.p)).setCell (p := ⟨q, 6, none⟩) hqw.out (.int .i64 c.q))
  clear HZ HX HR HW
  have HZ := GZ; clear GZ
  have HX := GX; clear GX
  have HR := GR; clear GR
  have HW := GW; clear GW
  clear k0 z0 k1 z1 k2 z2 k3 z3 k4 z4 k5 z5 k6 z6
  have hF := fun k (hk : F k) => Nat.lt_of_lt_of_le (hFp.out k hk) (Nat.le_of_lt HR.out.lt)
  go_at_call 48
  refine (cNumX HH.out.2.1 HR.out).mono ?_
  rintro x w3 ⟨rfl, hr, hg⟩
  clear hF
  have GZ := hid (obGrow HZ.out hg hzp.out)
  have GX := hid (obGrow HX.out hg hqp.out)
  have GR := hid hr
  have GW := hid (HW.out.grown hg HW.out.size (fun k hk => by cases hk; exact hpw.out))
  clear hr hg
  clear HZ HX HR HW
  have HZ := GZ; clear GZ
  have HX := GX; clear GX
  have HR := GR; clear GR
  have HW := GW; clear GW
  have hF := fun k (hk : F k) => Nat.lt_of_lt_of_le (hFp.out k hk) (Nat.le_of_lt HR.out.lt)
  have k7 : w3.cell? ⟨q, 7, none⟩ = some (.int .i64 0) := Ob.cell (e := (⟨c, 0, 0, 0, 0, ⟨none, 0, 0⟩, 0, 0, ⟨none, 0, 0⟩, false, false, 0, ⟨none, 0, 0⟩⟩ : Ev)) HX.out (j := 7) rfl
  have z7 : w3.frozen? ⟨q, 7, none⟩ = false := Ob.free (e := (⟨c, 0, 0, 0, 0, ⟨none, 0, 0⟩, 0, 0, ⟨none, 0, 0⟩, false, false, 0, ⟨none, 0, 0⟩⟩ : Ev)) HX.out 7
  go_wp2_with fail
  have GZ := hid (setOther (q := q) (j := 7) (v := .int .i64 a1) HZ.out hzq.out)
  have GX := hid (Ob.set (e := (⟨c, 0, 0, 0, 0, ⟨none, 0, 0⟩, 0, 0, ⟨none, 0, 0⟩, false, false, 0, ⟨none, 0, 0⟩⟩ : Ev)) (T := 30) HX.out (j := 7) (v := .int .i64 a1) (e' := (⟨c, a1, 0, 0, 0, ⟨none, 0, 0⟩, 0, 0, ⟨none, 0, 0⟩, false, false, 0, ⟨none, 0, 0⟩⟩ : Ev)) rfl)
  have GR := hid (rdSet (q := q) (j := 7) (v := .int .i64 a1) HR.out hqp.out hqF.out)
  have GW := hid (HW.out.setCell (p := ⟨q, 7, none⟩) hqw.out (.int .i64 a1))
  clear HZ HX HR HW
  have HZ := GZ; clear GZ
  have HX := GX; clear GX
  have HR := GR; clear GR
  have HW := GW; clear GW
  clear k7 z7
  have hF := fun k (hk : F k) => Nat.lt_of_lt_of_le (hFp.out k hk) (Nat.le_of_lt HR.out.lt)
  go_at_call 48
  refine (cNumX HH.out.2.2.1 HR.out).mono ?_
  rintro x w4 ⟨rfl, hr, hg⟩
  clear hF
  have GZ := hid (obGrow HZ.out hg hzp.out)
  have GX := hid (obGrow HX.out hg hqp.out)
  have GR := hid hr
  have GW := hid (HW.out.grown hg HW.out.size (fun k hk => by cases hk; exact hpw.out))
  clear hr hg
  clear HZ HX HR HW
  have HZ := GZ; clear GZ
  have HX := GX; clear GX
  have HR := GR; clear GR
  have HW := GW; clear GW
  have hF := fun k (hk : F k) => Nat.lt_of_lt_of_le (hFp.out k hk) (Nat.le_of_lt HR.out.lt)
  have k8 : w4.cell? ⟨q, 8, none⟩ = some (.int .i64 0) := Ob.cell (e := (⟨c, a1, 0, 0, 0, ⟨none, 0, 0⟩, 0, 0, ⟨none, 0, 0⟩, false, false, 0, ⟨none, 0, 0⟩⟩ : Ev)) HX.out (j := 8) rfl
  have z8 : w4.frozen? ⟨q, 8, none⟩ = false := Ob.free (e := (⟨c, a1, 0, 0, 0, ⟨none, 0, 0⟩, 0, 0, ⟨none, 0, 0⟩, false, false, 0, ⟨none, 0, 0⟩⟩ : Ev)) HX.out 8
  go_wp2_with fail
  have GZ := hid (setOther (q := q) (j := 8) (v := .int .i64 a2) HZ.out hzq.out)
  have GX := hid (Ob.set (e := (⟨c, a1, 0, 0, 0, ⟨none, 0, 0⟩, 0, 0, ⟨none, 0, 0⟩, false, false, 0, ⟨none, 0, 0⟩⟩ : Ev)) (T := 30) HX.out (j := 8) (v := .int .i64 a2) (e' := (⟨c, a1, a2, 0, 0, ⟨none, 0, 0⟩, 0, 0, ⟨none, 0, 0⟩, false, false, 0, ⟨none, 0, 0⟩⟩ : Ev)) rfl)
  have GR := hid (rdSet (q := q) (j := 8) (v := .int .i64 a2) HR.out hqp.out hqF.out)
  have GW := hid (HW.out.setCell (p := ⟨q, 8, none⟩) hqw.out (.int .i64 a2))
  clear HZ HX HR HW
  have HZ := GZ; clear GZ
  have HX := GX; clear GX
  have HR := GR; clear GR
  have HW := GW; clear GW
  clear k8 z8
  have hF := fun k (hk : F k) => Nat.lt_of_lt_of_le (hFp.out k hk) (Nat.le_of_lt HR.out.lt)
  go_at_call 48
  refine (cNumX HH.out.2.2.2.1 HR.out).mono ?_
  rintro x w5 ⟨rfl, hr, hg⟩
  clear hF
  have GZ := hid (obGrow HZ.out hg hzp.out)
  have GX := hid (obGrow HX.out hg hqp.out)
  have GR := hid hr
  have GW := hid (HW.out.grown hg HW.out.size (fun k hk => by cases hk; exact hpw.out))
  clear hr hg
  clear HZ HX HR HW
  have HZ := GZ; clear GZ
  have HX := GX; clear GX
  have HR := GR; clear GR
  have HW := GW; clear GW
  have hF := fun k (hk : F k) => Nat.lt_of_lt_of_le (hFp.out k hk) (Nat.le_of_lt HR.out.lt)
  have k9 : w5.cell? ⟨q, 9, none⟩ = some (.int .i64 0) := Ob.cell (e := (⟨c, a1, a2, 0, 0, ⟨none, 0, 0⟩, 0, 0, ⟨none, 0, 0⟩, false, false, 0, ⟨none, 0, 0⟩⟩ : Ev)) HX.out (j := 9) rfl
  have z9 : w5.frozen? ⟨q, 9, none⟩ = false := Ob.free (e := (⟨c, a1, a2, 0, 0, ⟨none, 0, 0⟩, 0, 0, ⟨none, 0, 0⟩, false, false, 0, ⟨none, 0, 0⟩⟩ : Ev)) HX.out 9
  go_wp2_with fail
  have GZ := hid (setOther (q := q) (j := 9) (v := .int .i64 a3) HZ.out hzq.out)
  have GX := hid (Ob.set (e := (⟨c, a1, a2, 0, 0, ⟨none, 0, 0⟩, 0, 0, ⟨none, 0, 0⟩, false, false, 0, ⟨none, 0, 0⟩⟩ : Ev)) (T := 30) HX.out (j := 9) (v := .int .i64 a3) (e' := (⟨c, a1, a2, a3, 0, ⟨none, 0, 0⟩, 0, 0, ⟨none, 0, 0⟩, false, false, 0, ⟨none, 0, 0⟩⟩ : Ev)) rfl)
  have GR := hid (rdSet (q := q) (j := 9) (v := .int .i64 a3) HR.out hqp.out hqF.out)
  have GW := hid (HW.out.setCell (p := ⟨q, 9, none⟩) hqw.out (.int .i64 a3))
  clear HZ HX HR HW
  have HZ := GZ; clear GZ
  have HX := GX; clear GX
  have HR := GR; clear GR
  have HW := GW; clear GW
  clear k9 z9
  have hF := fun k (hk : F k) => Nat.lt_of_lt_of_le (hFp.out k hk) (Nat.le_of_lt HR.out.lt)
  go_at_call 49
  refine (cValueX HH.out.2.2.2.2.1 HR.out hF).mono ?_
  rintro x w6 ⟨g4, c4, n4, rfl, ho, hr, hg⟩
  clear hF
  have B0 : p < (w5.setCell ⟨q, 9, none⟩ (.int .i64 a3)).heap.size := HR.out.lt
  have B1 : q < (w5.setCell ⟨q, 9, none⟩ (.int .i64 a3)).heap.size := (Array.getElem?_eq_some_iff.1 HX.out).1
  have hp4 := hid B0
  have hq4 := hid B1
  clear B0 B1
  have GZ := hid (obGrow HZ.out hg hzp.out)
  have GX := hid (obGrow HX.out hg hqp.out)
  have GR := hid hr
  have GW := hid (HW.out.grown hg HW.out.size (fun k hk => by cases hk; exact hpw.out))
  clear hr hg
  clear HZ HX HR HW
  have HZ := GZ; clear GZ
  have HX := GX; clear GX
  have HR := GR; clear GR
  have HW := GW; clear GW
  have hF := fun k (hk : F k) => Nat.lt_of_lt_of_le (hFp.out k hk) (Nat.le_of_lt HR.out.lt)
  have H4 := hid ho
  clear ho
  have k10 : w6.cell? ⟨q, 10, none⟩ = some (.int .i64 0) := Ob.cell (e := (⟨c, a1, a2, a3, 0, ⟨none, 0, 0⟩, 0, 0, ⟨none, 0, 0⟩, false, false, 0, ⟨none, 0, 0⟩⟩ : Ev)) HX.out (j := 10) rfl
  have z10 : w6.frozen? ⟨q, 10, none⟩ = false := Ob.free (e := (⟨c, a1, a2, a3, 0, ⟨none, 0, 0⟩, 0, 0, ⟨none, 0, 0⟩, false, false, 0, ⟨none, 0, 0⟩⟩ : Ev)) HX.out 10
  have k11 : w6.cell? ⟨q, 11, none⟩ = some (.slice none 0 0) := Ob.cell (e := (⟨c, a1, a2, a3, 0, ⟨none, 0, 0⟩, 0, 0, ⟨none, 0, 0⟩, false, false, 0, ⟨none, 0, 0⟩⟩ : Ev)) HX.out (j := 11) rfl
  have z11 : w6.frozen? ⟨q, 11, none⟩ = false := Ob.free (e := (⟨c, a1, a2, a3, 0, ⟨none, 0, 0⟩, 0, 0, ⟨none, 0, 0⟩, false, false, 0, ⟨none, 0, 0⟩⟩ : Ev)) HX.out 11
  go_wp2_with fail
  have GZ := hid (setOther (q := q) (j := 11) (v := .slice g4 n4 c4) (setOther (q := q) (j := 10) (v := .int .i64 a4) HZ.out hzq.out) hzq.out)
  have GX := hid (Ob.set (e := (⟨c, a1, a2, a3, a4, ⟨none, 0, 0⟩, 0, 0, ⟨none, 0, 0⟩, false, false, 0, ⟨none, 0, 0⟩⟩ : Ev)) (T := 30) (Ob.set (e := (⟨c, a1, a2, a3, 0, ⟨none, 0, 0⟩, 0, 0, ⟨none, 0, 0⟩, false, false, 0, ⟨none, 0, 0⟩⟩ : Ev)) (T := 30) HX.out (j := 10) (v := .int .i64 a4) (e' := (⟨c, a1, a2, a3, a4, ⟨none, 0, 0⟩, 0, 0, ⟨none, 0, 0⟩, false, false, 0, ⟨none, 0, 0⟩⟩ : Ev)) rfl) (j := 11) (v := .slice g4 n4 c4) (e' := (⟨c, a1, a2, a3, a4, ⟨g4, n4, c4⟩, 0, 0, ⟨none, 0, 0⟩, false, false, 0, ⟨none, 0, 0⟩⟩ : Ev)) rfl)
  have GR := hid (rdSet (q := q) (j := 11) (v := .slice g4 n4 c4) (rdSet (q := q) (j := 10) (v := .int .i64 a4) HR.out hqp.out hqF.out) hqp.out hqF.out)
  have GW := hid ((HW.out.setCell (p := ⟨q, 10, none⟩) hqw.out (.int .i64 a4)).setCell (p := ⟨q, 11, none⟩) hqw.out (.slice g4 n4 c4))
  have G4 := hid (ownSet (q := q) (j := 11) (u := .slice g4 n4 c4) (ownSet (q := q) (j := 10) (u := .int .i64 a4) H4.out hq4.out) hq4.out)
  clear HZ HX HR HW H4
  have HZ := GZ; clear GZ
  have HX := GX; clear GX
  have HR := GR; clear GR
  have HW := GW; clear GW
  have H4 := G4; clear G4
  clear k10 z10 k11 z11
  have hF := fun k (hk : F k) => Nat.lt_of_lt_of_le (hFp.out k hk) (Nat.le_of_lt HR.out.lt)
  go_at_call 48
  refine (cNumX HH.out.2.2.2.2.2.1 HR.out).mono ?_
  rintro x w7 ⟨rfl, hr, hg⟩
  clear hF
  have GZ := hid (obGrow HZ.out hg hzp.out)
  have GX := hid (obGrow HX.out hg hqp.out)
  have GR := hid hr
  have GW := hid (HW.out.grown hg HW.out.size (fun k hk => by cases hk; exact hpw.out))
  have G4 := hid (H4.out.kept' hg hp4.out)
  clear hr hg
  clear HZ HX HR HW H4
  have HZ := GZ; clear GZ
  have HX := GX; clear GX
  have HR := GR; clear GR
  have HW := GW; clear GW
  have H4 := G4; clear G4
  have hF := fun k (hk : F k) => Nat.lt_of_lt_of_le (hFp.out k hk) (Nat.le_of_lt HR.out.lt)
  have k12 : w7.cell? ⟨q, 12, none⟩ = some (.int .i64 0) := Ob.cell (e := (⟨c, a1, a2, a3, a4, ⟨g4, n4, c4⟩, 0, 0, ⟨none, 0, 0⟩, false, false, 0, ⟨none, 0, 0⟩⟩ : Ev)) HX.out (j := 12) rfl
  have z12 : w7.frozen? ⟨q, 12, none⟩ = false := Ob.free (e := (⟨c, a1, a2, a3, a4, ⟨g4, n4, c4⟩, 0, 0, ⟨none, 0, 0⟩, false, false, 0, ⟨none, 0, 0⟩⟩ : Ev)) HX.out 12
  go_wp2_with fail
  have GZ := hid (setOther (q := q) (j := 12) (v := .int .i64 a5) HZ.out hzq.out)
  have GX := hid (Ob.set (e := (⟨c, a1, a2, a3, a4, ⟨g4, n4, c4⟩, 0, 0, ⟨none, 0, 0⟩, false, false, 0, ⟨none, 0, 0⟩⟩ : Ev)) (T := 30) HX.out (j := 12) (v := .int .i64 a5) (e' := (⟨c, a1, a2, a3, a4, ⟨g4, n4, c4⟩, a5, 0, ⟨none, 0, 0⟩, false, false, 0, ⟨none, 0, 0⟩⟩ : Ev)) rfl)
  have GR := hid (rdSet (q := q) (j := 12) (v := .int .i64 a5) HR.out hqp.out hqF.out)
  have GW := hid (HW.out.setCell (p := ⟨q, 12, none⟩) hqw.out (.int .i64 a5))
  have G4 := hid (ownSet (q := q) (j := 12) (u := .int .i64 a5) H4.out hq4.out)
  clear HZ HX HR HW H4
  have HZ := GZ; clear GZ
  have HX := GX; clear GX
  have HR := GR; clear GR
  have HW := GW; clear GW
  have H4 := G4; clear G4
  clear k12 z12
  have hF := fun k (hk : F k) => Nat.lt_of_lt_of_le (hFp.out k hk) (Nat.le_of_lt HR.out.lt)
  go_at_call 49
  refine (cValueX HH.out.2.2.2.2.2.2.1 HR.out hF).mono ?_
  rintro x w8 ⟨g6, c6, n6, rfl, ho, hr, hg⟩
  clear hF
  have B0 : p < (w7.setCell ⟨q, 12, none⟩ (.int .i64 a5)).heap.size := HR.out.lt
  have B1 : q < (w7.setCell ⟨q, 12, none⟩ (.int .i64 a5)).heap.size := (Array.getElem?_eq_some_iff.1 HX.out).1
  have hp6 := hid B0
  have hq6 := hid B1
  clear B0 B1
  have GZ := hid (obGrow HZ.out hg hzp.out)
  have GX := hid (obGrow HX.out hg hqp.out)
  have GR := hid hr
  have GW := hid (HW.out.grown hg HW.out.size (fun k hk => by cases hk; exact hpw.out))
  have G4 := hid (H4.out.kept' hg hp4.out)
  clear hr hg
  clear HZ HX HR HW H4
  have HZ := GZ; clear GZ
  have HX := GX; clear GX
  have HR := GR; clear GR
  have HW := GW; clear GW
  have H4 := G4; clear G4
  have hF := fun k (hk : F k) => Nat.lt_of_lt_of_le (hFp.out k hk) (Nat.le_of_lt HR.out.lt)
  have H6 := hid ho
  clear ho
  have k13 : w8.cell? ⟨q, 13, none⟩ = some (.int .i64 0) := Ob.cell (e := (⟨c, a1, a2, a3, a4, ⟨g4, n4, c4⟩, a5, 0, ⟨none, 0, 0⟩, false, false, 0, ⟨none, 0, 0⟩⟩ : Ev)) HX.out (j := 13) rfl
  have z13 : w8.frozen? ⟨q, 13, none⟩ = false := Ob.free (e := (⟨c, a1, a2, a3, a4, ⟨g4, n4, c4⟩, a5, 0, ⟨none, 0, 0⟩, false, false, 0, ⟨none, 0, 0⟩⟩ : Ev)) HX.out 13
  have k14 : w8.cell? ⟨q, 14, none⟩ = some (.slice none 0 0) := Ob.cell (e := (⟨c, a1, a2, a3, a4, ⟨g4, n4, c4⟩, a5, 0, ⟨none, 0, 0⟩, false, false, 0, ⟨none, 0, 0⟩⟩ : Ev)) HX.out (j := 14) rfl
  have z14 : w8.frozen? ⟨q, 14, none⟩ = false := Ob.free (e := (⟨c, a1, a2, a3, a4, ⟨g4, n4, c4⟩, a5, 0, ⟨none, 0, 0⟩, false, false, 0, ⟨none, 0, 0⟩⟩ : Ev)) HX.out 14
  go_wp2_with fail
  have GZ := hid (setOther (q := q) (j := 14) (v := .slice g6 n6 c6) (setOther (q := q) (j := 13) (v := .int .i64 a6) HZ.out hzq.out) hzq.out)
  have GX := hid (Ob.set (e := (⟨c, a1, a2, a3, a4, ⟨g4, n4, c4⟩, a5, a6, ⟨none, 0, 0⟩, false, false, 0, ⟨none, 0, 0⟩⟩ : Ev)) (T := 30) (Ob.set (e := (⟨c, a1, a2, a3, a4, ⟨g4, n4, c4⟩, a5, 0, ⟨none, 0, 0⟩, false, false, 0, ⟨none, 0, 0⟩⟩ : Ev)) (T := 30) HX.out (j := 13) (v := .int .i64 a6) (e' := (⟨c, a1, a2, a3, a4, ⟨g4, n4, c4⟩, a5, a6, ⟨none, 0, 0⟩, false, false, 0, ⟨none, 0, 0⟩⟩ : Ev)) rfl) (j := 14) (v := .slice g6 n6 c6) (e' := (⟨c, a1, a2, a3, a4, ⟨g4, n4, c4⟩, a5, a6, ⟨g6, n6, c6⟩, false, false, 0, ⟨none, 0, 0⟩⟩ : Ev)) rfl)
  have GR := hid (rdSet (q := q) (j := 14) (v := .slice g6 n6 c6) (rdSet (q := q) (j := 13) (v := .int .i64 a6) HR.out hqp.out hqF.out) hqp.out hqF.out)
  have GW := hid ((HW.out.setCell (p := ⟨q, 13, none⟩) hqw.out (.int .i64 a6)).setCell (p := ⟨q, 14, none⟩) hqw.out (.slice g6 n6 c6))
  have G4 := hid (ownSet (q := q) (j := 14) (u := .slice g6 n6 c6) (ownSet (q := q) (j := 13) (u := .int .i64 a6) H4.out hq4.out) hq4.out)
  have G6 := hid (ownSet (q := q) (j := 14) (u := .slice g6 n6 c6) (ownSet (q := q) (j := 13) (u := .int .i64 a6) H6.out hq6.out) hq6.out)
  clear HZ HX HR HW H4 H6
  have HZ := GZ; clear GZ
  have HX := GX; clear GX
  have HR := GR; clear GR
  have HW := GW; clear GW
  have H4 := G4; clear G4
  have H6 := G6; clear G6
  clear k13 z13 k14 z14
  have hF := fun k (hk : F k) => Nat.lt_of_lt_of_le (hFp.out k hk) (Nat.le_of_lt HR.out.lt)
  go_at_call 48
  refine (cNumX HH.out.2.2.2.2.2.2.2.1 HR.out).mono ?_
  rintro x w9 ⟨rfl, hr, hg⟩
  clear hF
  have GZ := hid (obGrow HZ.out hg hzp.out)
  have GX := hid (obGrow HX.out hg hqp.out)
  have GR := hid hr
  have GW := hid (HW.out.grown hg HW.out.size (fun k hk => by cases hk; exact hpw.out))
  have G4 := hid (H4.out.kept' hg hp4.out)
  have G6 := hid (H6.out.kept' hg hp6.out)
  clear hr hg
  clear HZ HX HR HW H4 H6
  have HZ := GZ; clear GZ
  have HX := GX; clear GX
  have HR := GR; clear GR
  have HW := GW; clear GW
  have H4 := G4; clear G4
  have H6 := G6; clear G6
  have hF := fun k (hk : F k) => Nat.lt_of_lt_of_le (hFp.out k hk) (Nat.le_of_lt HR.out.lt)
  go_wp2_with fail
  have GZ := hid HZ.out
  have GX := hid HX.out
  have GR := hid HR.out
  have GW := hid HW.out
  have G4 := hid H4.out
  have G6 := hid H6.out
  clear HZ HX HR HW H4 H6
  have HZ := GZ; clear GZ
  have HX := GX; clear GX
  have HR := GR; clear GR
  have HW := GW; clear GW
  have H4 := G4; clear G4
  have H6 := G6; clear G6
  have hF := fun k (hk : F k) => Nat.lt_of_lt_of_le (hFp.out k hk) (Nat.le_of_lt HR.out.lt)
  go_at_call 48
  refine (cNumX HH.out.2.2.2.2.2.2.2.2.1 HR.out).mono ?_
  rintro x w10 ⟨rfl, hr, hg⟩
  clear hF
  have GZ := hid (obGrow HZ.out hg hzp.out)
  have GX := hid (obGrow HX.out hg hqp.out)
  have GR := hid hr
  have GW := hid (HW.out.grown hg HW.out.size (fun k hk => by cases hk; exact hpw.out))
  have G4 := hid (H4.out.kept' hg hp4.out)
  have G6 := hid (H6.out.kept' hg hp6.out)
  clear hr hg
  clear HZ HX HR HW H4 H6
  have HZ := GZ; clear GZ
  have HX := GX; clear GX
  have HR := GR; clear GR
  have HW := GW; clear GW
  have H4 := G4; clear G4
  have H6 := G6; clear G6
  have hF := fun k (hk : F k) => Nat.lt_of_lt_of_le (hFp.out k hk) (Nat.le_of_lt HR.out.lt)
  go_wp2_with fail
  have GZ := hid HZ.out
  have GX := hid HX.out
  have GR := hid HR.out
  have GW := hid HW.out
  have G4 := hid H4.out
  have G6 := hid H6.out
  clear HZ HX HR HW H4 H6
  have HZ := GZ; clear GZ
  have HX := GX; clear GX
  have HR := GR; clear GR
  have HW := GW; clear GW
  have H4 := G4; clear G4
  have H6 := G6; clear G6
  have hF := fun k (hk : F k) => Nat.lt_of_lt_of_le (hFp.out k hk) (Nat.le_of_lt HR.out.lt)
  go_at_call 49
  refine (cValueX HH.out.2.2.2.2.2.2.2.2.2 HR.out hF).mono ?_
  rintro x w11 ⟨g9, c9, n9, rfl, ho, hr, hg⟩
  clear hF
  have B0 : p < w10.heap.size := HR.out.lt
  have B1 : q < w10.heap.size := (Array.getElem?_eq_some_iff.1 HX.out).1
  have hp9 := hid B0
  have hq9 := hid B1
  clear B0 B1
  have GZ := hid (obGrow HZ.out hg hzp.out)
  have GX := hid (obGrow HX.out hg hqp.out)
  have GR := hid hr
  have GW := hid (HW.out.grown hg HW.out.size (fun k hk => by cases hk; exact hpw.out))
  have G4 := hid (H4.out.kept' hg hp4.out)
  have G6 := hid (H6.out.kept' hg hp6.out)
  clear hr hg
  clear HZ HX HR HW H4 H6
  have HZ := GZ; clear GZ
  have HX := GX; clear GX
  have HR := GR; clear GR
  have HW := GW; clear GW
  have H4 := G4; clear G4
  have H6 := G6; clear G6
  have hF := fun k (hk : F k) => Nat.lt_of_lt_of_le (hFp.out k hk) (Nat.le_of_lt HR.out.lt)
  have H9 := hid ho
  clear ho
  have k17 : w11.cell? ⟨q, 17, none⟩ = some (.int .i64 0) := Ob.cell (e := (⟨c, a1, a2, a3, a4, ⟨g4, n4, c4⟩, a5, a6, ⟨g6, n6, c6⟩, false, false, 0, ⟨none, 0, 0⟩⟩ : Ev)) HX.out (j := 17) rfl
  have z17 : w11.frozen? ⟨q, 17, none⟩ = false := Ob.free (e := (⟨c, a1, a2, a3, a4, ⟨g4, n4, c4⟩, a5, a6, ⟨g6, n6, c6⟩, false, false, 0, ⟨none, 0, 0⟩⟩ : Ev)) HX.out 17
  have k18 : w11.cell? ⟨q, 18, none⟩ = some (.slice none 0 0) := Ob.cell (e := (⟨c, a1, a2, a3, a4, ⟨g4, n4, c4⟩, a5, a6, ⟨g6, n6, c6⟩, false, false, 0, ⟨none, 0, 0⟩⟩ : Ev)) HX.out (j := 18) rfl
  have z18 : w11.frozen? ⟨q, 18, none⟩ = false := Ob.free (e := (⟨c, a1, a2, a3, a4, ⟨g4, n4, c4⟩, a5, a6, ⟨g6, n6, c6⟩, false, false, 0, ⟨none, 0, 0⟩⟩ : Ev)) HX.out 18
  have k15 : w11.cell? ⟨q, 15, none⟩ = some (.bool false) := Ob.cell (e := (⟨c, a1, a2, a3, a4, ⟨g4, n4, c4⟩, a5, a6, ⟨g6, n6, c6⟩, false, false, 0, ⟨none, 0, 0⟩⟩ : Ev)) HX.out (j := 15) rfl
  have z15 : w11.frozen? ⟨q, 15, none⟩ = false := Ob.free (e := (⟨c, a1, a2, a3, a4, ⟨g4, n4, c4⟩, a5, a6, ⟨g6, n6, c6⟩, false, false, 0, ⟨none, 0, 0⟩⟩ : Ev)) HX.out 15
  have k16 : w11.cell? ⟨q, 16, none⟩ = some (.bool false) := Ob.cell (e := (⟨c, a1, a2, a3, a4, ⟨g4, n4, c4⟩, a5, a6, ⟨g6, n6, c6⟩, false, false, 0, ⟨none, 0, 0⟩⟩ : Ev)) HX.out (j := 16) rfl
  have z16 : w11.frozen? ⟨q, 16, none⟩ = false := Ob.free (e := (⟨c, a1, a2, a3, a4, ⟨g4, n4, c4⟩, a5, a6, ⟨g6, n6, c6⟩, false, false, 0, ⟨none, 0, 0⟩⟩ : Ev)) HX.out 16
  go_wp2_with fail
  have GZ := hid (setOther (q := q) (j := 16) (v := .bool ((a8 : Int) == 1)) (setOther (q := q) (j := 15) (v := .bool ((a7 : Int) == 1)) (setOther (q := q) (j := 18) (v := .slice g9 n9 c9) (setOther (q := q) (j := 17) (v := .int .i64 a9) HZ.out hzq.out) hzq.out) hzq.out) hzq.out)
  have GX := hid (Ob.set (e := (⟨c, a1, a2, a3, a4, ⟨g4, n4, c4⟩, a5, a6, ⟨g6, n6, c6⟩, ((a7 : Int) == 1), false, a9, ⟨g9, n9, c9⟩⟩ : Ev)) (T := 30) (Ob.set (e := (⟨c, a1, a2, a3, a4, ⟨g4, n4, c4⟩, a5, a6, ⟨g6, n6, c6⟩, false, false, a9, ⟨g9, n9, c9⟩⟩ : Ev)) (T := 30) (Ob.set (e := (⟨c, a1, a2, a3, a4, ⟨g4, n4, c4⟩, a5, a6, ⟨g6, n6, c6⟩, false, false, a9, ⟨none, 0, 0⟩⟩ : Ev)) (T := 30) (Ob.set (e := (⟨c, a1, a2, a3, a4, ⟨g4, n4, c4⟩, a5, a6, ⟨g6, n6, c6⟩, false, false, 0, ⟨none, 0, 0⟩⟩ : Ev)) (T := 30) HX.out (j := 17) (v := .int .i64 a9) (e' := (⟨c, a1, a2, a3, a4, ⟨g4, n4, c4⟩, a5, a6, ⟨g6, n6, c6⟩, false, false, a9, ⟨none, 0, 0⟩⟩ : Ev)) rfl) (j := 18) (v := .slice g9 n9 c9) (e' := (⟨c, a1, a2, a3, a4, ⟨g4, n4, c4⟩, a5, a6, ⟨g6, n6, c6⟩, false, false, a9, ⟨g9, n9, c9⟩⟩ : Ev)) rfl) (j := 15) (v := .bool ((a7 : Int) == 1)) (e' := (⟨c, a1, a2, a3, a4, ⟨g4, n4, c4⟩, a5, a6, ⟨g6, n6, c6⟩, ((a7 : Int) == 1), false, a9, ⟨g9, n9, c9⟩⟩ : Ev)) rfl) (j := 16) (v := .bool ((a8 : Int) == 1)) (e' := (⟨c, a1, a2, a3, a4, ⟨g4, n4, c4⟩, a5, a6, ⟨g6, n6, c6⟩, ((a7 : Int) == 1), ((a8 : Int) == 1), a9, ⟨g9, n9, c9⟩⟩ : Ev)) rfl)
  have GR := hid (rdSet (q := q) (j := 16) (v := .bool ((a8 : Int) == 1)) (rdSet (q := q) (j := 15) (v := .bool ((a7 : Int) == 1)) (rdSet (q := q) (j := 18) (v := .slice g9 n9 c9) (rdSet (q := q) (j := 17) (v := .int .i64 a9) HR.out hqp.out hqF.out) hqp.out hqF.out) hqp.out hqF.out) hqp.out hqF.out)
  have GW := hid ((((HW.out.setCell (p := ⟨q, 17, none⟩) hqw.out (.int .i64 a9)).setCell (p := ⟨q, 18, none⟩) hqw.out (.slice g9 n9 c9)).setCell (p := ⟨q, 15, none⟩) hqw.out (.bool ((a7 : Int) == 1))).setCell (p := ⟨q, 16, none⟩) hqw.out (.bool ((a8 : Int) == 1)))
  have G4 := hid (ownSet (q := q) (j := 16) (u := .bool ((a8 : Int) == 1)) (ownSet (q := q) (j := 15) (u := .bool ((a7 : Int) == 1)) (ownSet (q := q) (j := 18) (u := .slice g9 n9 c9) (ownSet (q := q) (j := 17) (u := .int .i64 a9) H4.out hq4.out) hq4.out) hq4.out) hq4.out)
  have G6 := hid (ownSet (q := q) (j := 16) (u := .bool ((a8 : Int) == 1)) (ownSet (q := q) (j := 15) (u := .bool ((a7 : Int) == 1)) (ownSet (q := q) (j := 18) (u := .slice g9 n9 c9) (ownSet (q := q) (j := 17) (u := .int .i64 a9) H6.out hq6.out) hq6.out) hq6.out) hq6.out)
  have G9 := hid (ownSet (q := q) (j := 16) (u := .bool ((a8 : Int) == 1)) (ownSet (q := q) (j := 15) (u := .bool ((a7 : Int) == 1)) (ownSet (q := q) (j := 18) (u := .slice g9 n9 c9) (ownSet (q := q) (j := 17) (u := .int .i64 a9) H9.out hq9.out) hq9.out) hq9.out) hq9.out)
  clear HZ HX HR HW H4 H6 H9
  have HZ := GZ; clear GZ
  have HX := GX; clear GX
  have HR := GR; clear GR
  have HW := GW; clear GW
  have H4 := G4; clear G4
  have H6 := G6; clear G6
  have H9 := G9; clear G9
  clear k17 z17 k18 z18 k15 z15 k16 z16
  have hF := fun k (hk : F k) => Nat.lt_of_lt_of_le (hFp.out k hk) (Nat.le_of_lt HR.out.lt)
  obtain ⟨W, hW⟩ : ∃ W, W = ((((w11.setCell ⟨q, 17, none⟩ (.int .i64 a9)).setCell ⟨q, 18, none⟩ (.slice g9 n9 c9)).setCell ⟨q, 15, none⟩ (.bool ((a7 : Int) == 1))).setCell ⟨q, 16, none⟩ (.bool ((a8 : Int) == 1))) := ⟨_, rfl⟩
  rw [← hW] at HX HZ HR HW H4 H6 H9 ⊢
  clear hW
  have hEv : (⟨c, a1, a2, a3, a4, ⟨g4, n4, c4⟩, a5, a6, ⟨g6, n6, c6⟩, ((a7 : Int) == 1), ((a8 : Int) == 1), a9, ⟨g9, n9, c9⟩⟩ : Ev) = (⟨c, a1, a2, a3, (a4, l4), a5, (a6, l6), a7, a8, (a9, l9), s10⟩ : Tk).ev ⟨g4, n4, c4⟩ ⟨g6, n6, c6⟩ ⟨g9, n9, c9⟩ := by unfold Tk.ev; rw [beq_dec, beq_dec]
  rw [hEv] at HX
  clear hEv hF
  obtain ⟨E, hE⟩ : ∃ E, E = (⟨c, a1, a2, a3, (a4, l4), a5, (a6, l6), a7, a8, (a9, l9), s10⟩ : Tk).ev ⟨g4, n4, c4⟩ ⟨g6, n6, c6⟩ ⟨g9, n9, c9⟩ := ⟨_, rfl⟩
  have hrt : rightE E l4 l6 l9 = (⟨c, a1, a2, a3, (a4, l4), a5, (a6, l6), a7, a8, (a9, l9), s10⟩ : Tk).right := by rw [hE]; rfl
  rw [← hE] at HX
  have HE := hid hE
  have S4 : Hid (Sl W (.slice g4 n4 c4) l4) := hid H4.out.sl
  have S6 : Hid (Sl W (.slice g6 n6 c6) l6) := hid H6.out.sl
  have S9 : Hid (Sl W (.slice g9 n9 c9) l9) := hid H9.out.sl
  have L4 : Hid (l4.length ≤ 1024) := hid (by have := valueS_short s4; rw [HH.out.2.2.2.2.1] at this; exact this)
  have L6 : Hid (l6.length ≤ 1024) := hid (by have := valueS_short s6; rw [HH.out.2.2.2.2.2.2.1] at this; exact this)
  have L9 : Hid (l9.length ≤ 1024) := hid (by have := valueS_short s9; rw [HH.out.2.2.2.2.2.2.2.2.2] at this; exact this)
  have hl10 : s10.2 = 0 → s10.1.length ≤ bs.length := by have := take_rest (bs := bs); rw [HT.out] at this; exact this
  have HL10 := hid hl10
  obtain ⟨rg, hrg⟩ : ∃ rg, rg = (⟨c, a1, a2, a3, (a4, l4), a5, (a6, l6), a7, a8, (a9, l9), s10⟩ : Tk).right := ⟨_, rfl⟩
  rw [← hrg] at hrt
  have hgd : (⟨c, a1, a2, a3, (a4, l4), a5, (a6, l6), a7, a8, (a9, l9), s10⟩ : Tk).good = (decide (s10.2 = 0) && (decide (s10.1.length = 0) && (decide (a7 ≤ 1) && (decide (a8 ≤ 1) && rg)))) := by rw [hrg]; rfl
  obtain ⟨gd, hgd2⟩ : ∃ gd, gd = (⟨c, a1, a2, a3, (a4, l4), a5, (a6, l6), a7, a8, (a9, l9), s10⟩ : Tk).good := ⟨_, rfl⟩
  rw [← hgd2] at hgd
  have HGD := hid hgd
  have HG := hid hgd2
  have HRT := hid hrt
  have q4 : Hid (w.heap.size < _) := hid (Nat.lt_of_le_of_lt hqw.out hq4.out)
  have q6 : Hid (w.heap.size < _) := hid (Nat.lt_of_le_of_lt hqw.out hq6.out)
  have q9 : Hid (w.heap.size < _) := hid (Nat.lt_of_le_of_lt hqw.out hq9.out)
  clear hE hrt hl10 hrg hgd hgd2 HT HH hp4 hp6 hp9 hq4 hq6 hq9
  go_at_call 50
  refine (cErr HR.out).mono ?_
  rintro x w' ⟨rfl, rfl⟩
  obtain ⟨er, her⟩ : ∃ er, er = s10.2 := ⟨_, rfl⟩
  rw [← her]
  by_cases hA : er = 0
  · rw [hA]
    have hs0 : s10.2 = 0 := by rw [← her, hA]
    clear her hA
    go_wp2_with fail
    go_at_call 51
    refine (cRest HR.out (by have := HL10.out hs0; omega)).mono ?_
    rintro x w12 ⟨r12, rfl, ho, hB⟩
    obtain ⟨g12, c12, n12, rfl, hn12⟩ := ho.asSlice
    have GX : Hid (Ob w12 q 30 E) := hid (heapB HX.out hB (Array.getElem?_eq_some_iff.1 HX.out).1)
    have GZ : Hid (Ob w12 w.heap.size 30 zE) := hid (heapB HZ.out hB (Array.getElem?_eq_some_iff.1 HZ.out).1)
    have GW := hid (HW.out.trans (hB.mono HW.out.size))
    have J4 := hid (own_sl_below H4.out hB)
    have J6 := hid (own_sl_below H6.out hB)
    have J9 := hid (own_sl_below H9.out hB)
    have G4 := hid (S4.out.on hB)
    have G6 := hid (S6.out.on hB)
    have G9 := hid (S9.out.on hB)
    clear HX HZ HW S4 S6 S9 H4 H6 H9 HR ho hB
    have HX := GX; clear GX
    have HZ := GZ; clear GZ
    have HW := GW; clear GW
    have S4 := G4; clear G4
    have S6 := G6; clear G6
    have S9 := G9; clear G9
    by_cases hB : n12 = 0
    · subst hB
      have HN12 : Hid (s10.1.length = 0) := hid hn12.symm
      clear hn12
      by_cases hC : a7 ≤ 1
      · have hC2 : ¬ (1 : Int) < (a7 : Int) := by omega
        have hC3 : decide ((1 : Int) < (a7 : Int)) = false := decide_eq_false hC2
        by_cases hD : a8 ≤ 1
        · have hD2 : ¬ (1 : Int) < (a8 : Int) := by omega
          have hD3 : decide ((1 : Int) < (a8 : Int)) = false := decide_eq_false hD2
          rcases hE : rg with _ | _
          · have hgood : Hid (gd = false) := hid (by rw [HGD.out, hE]; simp)
            have hRt := cRightE (e := E) (w := w12) (by have h := S4.out; rw [HE.out]; exact h) (by have h := S6.out; rw [HE.out]; exact h) (by have h := S9.out; rw [HE.out]; exact h) L4.out L6.out L9.out
            rw [HRT.out, hE] at hRt
            clear hE
            go_wp2_with (first | ((with_reducible refine loadGC (x := ?lx6) (b := ?lb6) (T := 30) E ?lg6 ?lo6 ?lxx6 ?lc6 ?lh6); (case lg6 => rfl); (case lo6 => rfl); (case lxx6 => rfl); (case lc6 => exact HX.out)) | fail)
            go_at_call 6
            refine hRt.mono ?_
            rintro x w13 ⟨rfl, hB⟩
            have GZ : Hid (Ob w13 w.heap.size 30 zE) := hid (heapB HZ.out hB (Array.getElem?_eq_some_iff.1 HZ.out).1)
            have GW := hid (HW.out.trans (hB.mono HW.out.size))
            clear HX HZ HW hRt hB S4 S6 S9 J4 J6 J9
            have HZ := GZ; clear GZ
            have HW := GW; clear GW
            go_wp2_with (first | ((with_reducible refine storeC (x := ?sx2) (y := ?sy2) (b := ?sb2) (T := 30) zE ?sg2 ?so2 ?sxx2 ?syy2 ?sc2 ?sh2); (case sg2 => rfl); (case so2 => rfl); (case sxx2 => rfl); (case syy2 => rfl); (case sc2 => exact Ob.room (e := zE) HZ.out); intro W9 hO hU; have hZ9 := hid hO; have hW9 := hid (HW.out.trans (hU.below _ (Nat.le_refl _))); have hU9 := hid hU; clear hO hU) | fail)
            refine bodyPost_ret (ret_cell_tmp rfl rfl rfl (Ob.range (e := zE) hZ9.out) Try.underlying30 rfl (infoEc zE)) rfl (DecPost.no (HG.out ▸ hgood.out) hW9.out)
          · have hgood : Hid (gd = true) := hid (by rw [HGD.out, hE]; simp only [hs0, HN12.out, hC, hD, decide_true, Bool.and_self])
            have hRt := cRightE (e := E) (w := w12) (by have h := S4.out; rw [HE.out]; exact h) (by have h := S6.out; rw [HE.out]; exact h) (by have h := S9.out; rw [HE.out]; exact h) L4.out L6.out L9.out
            rw [HRT.out, hE] at hRt
            clear hE
            go_wp2_with (first | ((with_reducible refine loadGC (x := ?lx7) (b := ?lb7) (T := 30) E ?lg7 ?lo7 ?lxx7 ?lc7 ?lh7); (case lg7 => rfl); (case lo7 => rfl); (case lxx7 => rfl); (case lc7 => exact HX.out)) | fail)
            go_at_call 6
            refine hRt.mono ?_
            rintro x w13 ⟨rfl, hB⟩
            have GX : Hid (Ob w13 q 30 E) := hid (heapB HX.out hB (Array.getElem?_eq_some_iff.1 HX.out).1)
            have GZ : Hid (Ob w13 w.heap.size 30 zE) := hid (heapB HZ.out hB (Array.getElem?_eq_some_iff.1 HZ.out).1)
            have GW := hid (HW.out.trans (hB.mono HW.out.size))
            have G4 := hid (own_sl_below J4.out hB)
            have G6 := hid (own_sl_below J6.out hB)
            have G9 := hid (own_sl_below J9.out hB)
            clear HX HZ HW hRt hB S4 S6 S9 J4 J6 J9
            have HX := GX; clear GX
            have HZ := GZ; clear GZ
            have HW := GW; clear GW
            go_wp2_with (first | ((with_reducible refine loadC (x := ?lx8) (b := ?lb8) (T := 30) E ?lg8 ?lo8 ?lxx8 ?lc8 ?lh8); (case lg8 => rfl); (case lo8 => rfl); (case lxx8 => rfl); (case lc8 => exact HX.out)) | ((with_reducible refine storeC (x := ?sx1) (y := ?sy1) (b := ?sb1) (T := 30) E ?sg1 ?so1 ?sxx1 ?syy1 ?sc1 ?sh1); (case sg1 => rfl); (case so1 => rfl); (case sxx1 => rfl); (case syy1 => rfl); (case sc1 => exact Ob.room (e := zE) HZ.out); intro W9 hO hU; have hZ9 := hid hO; have hW9 := hid (HW.out.trans (hU.below _ (Nat.le_refl _))); have hU9 := hid hU; clear hO hU) | fail)
            refine bodyPost_ret (ret_cell_tmp rfl rfl rfl (Ob.range (e := E) hZ9.out) Try.underlying30 rfl (infoEc E)) rfl (DecPost.yes (p := ⟨g4, n4, c4⟩) (q := ⟨g6, n6, c6⟩) (r := ⟨g9, n9, c9⟩) (HG.out ▸ hgood.out) HE.out (ownUpd G4.out hU9.out q4.out).sl (ownUpd G6.out hU9.out q6.out).sl (ownUpd G9.out hU9.out q9.out).sl hW9.out)
        · have hgood : Hid (gd = false) := hid (by rw [HGD.out]; simp [hD])
          have hD2 : (1 : Int) < (a8 : Int) := by omega
          have hD3 : decide ((1 : Int) < (a8 : Int)) = true := decide_eq_true hD2
          clear hD
          go_wp2_with (first | ((with_reducible refine storeC (x := ?sx3) (y := ?sy3) (b := ?sb3) (T := 30) zE ?sg3 ?so3 ?sxx3 ?syy3 ?sc3 ?sh3); (case sg3 => rfl); (case so3 => rfl); (case sxx3 => rfl); (case syy3 => rfl); (case sc3 => exact Ob.room (e := zE) HZ.out); intro W9 hO hU; have hZ9 := hid hO; have hW9 := hid (HW.out.trans (hU.below _ (Nat.le_refl _))); have hU9 := hid hU; clear hO hU) | fail)
          refine bodyPost_ret (ret_cell_tmp rfl rfl rfl (Ob.range (e := zE) hZ9.out) Try.underlying30 rfl (infoEc zE)) rfl (DecPost.no (HG.out ▸ hgood.out) hW9.out)
      · have hgood : Hid (gd = false) := hid (by rw [HGD.out]; simp [hC])
        have hC2 : (1 : Int) < (a7 : Int) := by omega
        have hC3 : decide ((1 : Int) < (a7 : Int)) = true := decide_eq_true hC2
        clear hC
        go_wp2_with (first | ((with_reducible refine storeC (x := ?sx4) (y := ?sy4) (b := ?sb4) (T := 30) zE ?sg4 ?so4 ?sxx4 ?syy4 ?sc4 ?sh4); (case sg4 => rfl); (case so4 => rfl); (case sxx4 => rfl); (case syy4 => rfl); (case sc4 => exact Ob.room (e := zE) HZ.out); intro W9 hO hU; have hZ9 := hid hO; have hW9 := hid (HW.out.trans (hU.below _ (Nat.le_refl _))); have hU9 := hid hU; clear hO hU) | fail)
        refine bodyPost_ret (ret_cell_tmp rfl rfl rfl (Ob.range (e := zE) hZ9.out) Try.underlying30 rfl (infoEc zE)) rfl (DecPost.no (HG.out ▸ hgood.out) hW9.out)
    · have hgood : Hid (gd = false) := hid (by rw [HGD.out]; simp; intro _ h; rw [h] at hn12; exact absurd hn12 hB)
      have hB2 : ¬ (n12 : Int) = 0 := by omega
      have hB3 : (0 : Int) < (n12 : Int) := by omega
      have hB4 : decide ((0 : Int) < (n12 : Int)) = true := decide_eq_true hB3
      clear hn12
      go_wp2_with (first | ((with_reducible refine storeC (x := ?sx5) (y := ?sy5) (b := ?sb5) (T := 30) zE ?sg5 ?so5 ?sxx5 ?syy5 ?sc5 ?sh5); (case sg5 => rfl); (case so5 => rfl); (case sxx5 => rfl); (case syy5 => rfl); (case sc5 => exact Ob.room (e := zE) HZ.out); intro W9 hO hU; have hZ9 := hid hO; have hW9 := hid (HW.out.trans (hU.below _ (Nat.le_refl _))); have hU9 := hid hU; clear hO hU) | fail)
      refine bodyPost_ret (ret_cell_tmp rfl rfl rfl (Ob.range (e := zE) hZ9.out) Try.underlying30 rfl (infoEc zE)) rfl (DecPost.no (HG.out ▸ hgood.out) hW9.out)
  · have hgood : Hid (gd = false) := hid (by rw [HGD.out, ← her]; simp [hA])
    have hA2 : (er == 0) = false := by simp [hA]
    have hA3 : ¬ er = 0 := hA
    clear her hA
    go_wp2_with (first | ((with_reducible refine storeC (x := ?sx9) (y := ?sy9) (b := ?sb9) (T := 30) zE ?sg9 ?so9 ?sxx9 ?syy9 ?sc9 ?sh9); (case sg9 => rfl); (case so9 => rfl); (case sxx9 => rfl); (case syy9 => rfl); (case sc9 => exact Ob.room (e := zE) HZ.out); intro W9 hO hU; have hZ9 := hid hO; have hW9 := hid (HW.out.trans (hU.below _ (Nat.le_refl _))); have hU9 := hid hU; clear hO hU) | fail)
    refine bodyPost_ret (ret_cell_tmp rfl rfl rfl (Ob.range (e := zE) hZ9.out) Try.underlying30 rfl (infoEc zE)) rfl (DecPost.no (HG.out ▸ hgood.out) hW9.out)
end Go.Proofs.Ytmndjdaiailgmaa
/- An entry of bytes: the document's Take. -/
namespace Go.Proofs.Ytmndjdaiailgmaa
set_option linter.unusedVariables false
open Go.RowKit
open Go.Lib (hid)

theorem rNumX {F : Nat → Prop} {p : Nat} {s s' : St} {n : Nat} {w : World} (hs : numS s = (n, s')) (h : Rd 87 F w p s) : Calls Try.prog 80 #[.pointer (some ⟨p, 0, none⟩)] w fun x w' => x = .returned (.int .i64 n) ∧ Rd 87 F w' p s' ∧ w.grownBy w' (some p) := by
  have := rNum h
  rw [hs] at this
  exact this
theorem rCmdX {F : Nat → Prop} {p : Nat} {s s' : St} {c : C7} {w : World} (hs : cmdS s = (c, s')) (h : Rd 87 F w p s) (hF : ∀ k, F k → k < w.heap.size) : Calls Try.prog 79 #[.pointer (some ⟨p, 0, none⟩)] w fun x w' => x = .returned (.agg #[.int .i64 c.i, .int .i64 c.k, .int .i64 c.s, .int .i64 c.t, .int .i64 c.d, .int .i64 c.p, .int .i64 c.q]) ∧ Rd 87 F w' p s' ∧ w.grownBy w' (some p) := by
  have := rCmd' h hF
  rw [hs] at this
  exact this
theorem rValueX {F : Nat → Prop} {p : Nat} {s s' : St} {t : Nat} {l : List C7} {w : World} (hs : valueS s = ((t, l), s')) (h : Rd 87 F w p s) (hF : ∀ k, F k → k < w.heap.size) : Calls Try.prog 81 #[.pointer (some ⟨p, 0, none⟩)] w fun x w' => ∃ g c n, x = .returned (.agg #[.int .i64 t, .slice g n c]) ∧ Own w' w.heap.size (.slice g n c) l ∧ Rd 87 F w' p s' ∧ w.grownBy w' (some p) := by
  have := rValue h hF
  rw [hs] at this
  refine this.mono ?_
  rintro x w' ⟨r, rfl, ho, hr, hg⟩
  obtain ⟨g, c, n, rfl, _⟩ := ho.asSlice
  exact ⟨g, c, n, rfl, ho, hr, hg⟩
theorem updGrown {q : Nat} {w W : World} (h : Upd q w W) : w.grownBy W (some q) := by
  have hb := h.below 0 (Nat.zero_le _)
  exact ⟨hb.os, hb.tape, hb.output, hb.size, fun k hk hne => h.other k hk (fun e => hne (by rw [e]))⟩
theorem rdErr {T : TypeId} {F : Nat → Prop} {w : World} {p : Nat} {s : St} (h : Rd T F w p s) (er : Int) : Rd T F (w.setCell ⟨p, 1, none⟩ (.int .i64 er)) p (s.1, er) := by
  obtain ⟨v, hp, hs, hF, hf⟩ := h
  refine ⟨v, set1 hp, hs.same (by simp [World.setCell]) (fun k hk hlt => (grownSet w ⟨p, 1, none⟩ (.int .i64 er)).block k hlt (fun e => hf (by cases e; exact hF _ hk))), hF, hf⟩
/-- How the reader stands behind an entry. -/
def Tk.fin (t : Tk) : St := if t.s.2 = 0 ∧ ¬ (t.fr ≤ 1 ∧ t.dn ≤ 1 ∧ t.right = true) then (t.s.1, 2) else t.s
def TakePost (F : Nat → Prop) (p : Nat) (t : Tk) (w : World) (x : Ending) (w' : World) : Prop := ∃ (a b c : Sv), x = .returned (.agg (t.ev a b c).arr) ∧ Own w' w.heap.size a.v t.f.2 ∧ Own w' w.heap.size b.v t.a.2 ∧ Own w' w.heap.size c.v t.v.2 ∧ Rd 87 F w' p t.fin ∧ w.grownBy w' (some p)
theorem TakePost.make {F : Nat → Prop} {p : Nat} {t : Tk} {w w' : World} {E : Ev} {a b c : Sv} {B C D : Nat} (hE : E = t.ev a b c) (h1 : Own w' B a.v t.f.2) (h2 : Own w' C b.v t.a.2) (h3 : Own w' D c.v t.v.2) (b1 : w.heap.size ≤ B) (b2 : w.heap.size ≤ C) (b3 : w.heap.size ≤ D) (hr : Rd 87 F w' p t.fin) (hg : w.grownBy w' (some p)) : TakePost F p t w (.returned (.agg E.list.toArray)) w' :=
  ⟨a, b, c, by rw [hE]; rfl, own_monoB h1 b1, own_monoB h2 b2, own_monoB h3 b3, hr, hg⟩

set_option maxHeartbeats 8000000 in
set_option maxRecDepth 100000 in
theorem rTake {F : Nat → Prop} {p : Nat} {bs : List UInt8} {w : World} (h : Rd 87 F w p (bs, 0)) (hF0 : ∀ k, F k → k < w.heap.size) :
    Calls Try.prog 57 #[.pointer (some ⟨p, 0, none⟩)] w fun x w' => TakePost F p (takeE (bs, 0)) w x w' := by
  obtain ⟨c, s1, h0⟩ : ∃ c s1, cmdS (bs, 0) = (c, s1) := ⟨_, _, rfl⟩
  obtain ⟨a1, s2, h1⟩ : ∃ n s', numS s1 = (n, s') := ⟨_, _, rfl⟩
  obtain ⟨a2, s3, h2⟩ : ∃ n s', numS s2 = (n, s') := ⟨_, _, rfl⟩
  obtain ⟨a3, s4, h3⟩ : ∃ n s', numS s3 = (n, s') := ⟨_, _, rfl⟩
  obtain ⟨a4, l4, s5, h4⟩ : ∃ t l s', valueS s4 = ((t, l), s') := ⟨_, _, _, rfl⟩
  obtain ⟨a5, s6, h5⟩ : ∃ n s', numS s5 = (n, s') := ⟨_, _, rfl⟩
  obtain ⟨a6, l6, s7, h6⟩ : ∃ t l s', valueS s6 = ((t, l), s') := ⟨_, _, _, rfl⟩
  obtain ⟨a7, s8, h7⟩ : ∃ n s', numS s7 = (n, s') := ⟨_, _, rfl⟩
  obtain ⟨a8, s9, h8⟩ : ∃ n s', numS s8 = (n, s') := ⟨_, _, rfl⟩
  obtain ⟨a9, l9, s10, h9⟩ : ∃ t l s', valueS s9 = ((t, l), s') := ⟨_, _, _, rfl⟩
  have hT : takeE (bs, 0) = ⟨c, a1, a2, a3, (a4, l4), a5, (a6, l6), a7, a8, (a9, l9), s10⟩ := by
    unfold takeE st10 st9 st8 st7 st6 st5 st4 st3 st2 st1
    simp only [h0, h1, h2, h3, h4, h5, h6, h7, h8, h9]
  rw [hT]
  have HH := hid (And.intro h0 (And.intro h1 (And.intro h2 (And.intro h3 (And.intro h4 (And.intro h5 (And.intro h6 (And.intro h7 (And.intro h8 h9)))))))))
  clear hT h0 h1 h2 h3 h4 h5 h6 h7 h8 h9
  have hplt := h.lt
  have hFp : Hid (∀ k, F k → k < w.heap.size) := hid hF0
  have hzp : Hid (w.heap.size ≠ p) := hid (by omega)
  have hpw : Hid (p < w.heap.size) := hid hplt
  have H0 := hid h
  have hz0 : Ob (w.alloc zeroE) w.heap.size 36 zE := heap_alloc_new w zeroE
  have HZ0 := hid hz0
  clear h hF0 hplt hz0
  go_enter Try.func57, Try.ntmps57
  go_wp2_with fail
  go_at_call 79
  refine (rCmdX HH.out.1 (H0.out.alloc zeroE) (fun k hk => by have := hFp.out k hk; simp; omega)).mono ?_
  rintro x w2 ⟨rfl, hr, hg⟩
  have hgw := grownTrans (World.grownBy_alloc w zeroE (some p)) hg
  have hsz2 := hgw.size
  obtain ⟨q, hq⟩ : ∃ q, q = w2.heap.size := ⟨_, rfl⟩
  have hszz := hg.size
  simp only [World.size_alloc] at hszz
  have hzq : Hid (w.heap.size ≠ q) := hid (by omega)
  have hqp : Hid (q ≠ p) := hid (by have := hpw.out; omega)
  have hqF : Hid (¬ F q) := hid (fun hk => by have := hFp.out q hk; omega)
  have hqw : Hid (w.heap.size ≤ q) := hid (by omega)
  have HZ1 : Hid (Ob (w2.alloc zeroE) w.heap.size 36 zE) := hid (obAlloc (obGrow HZ0.out hg hzp.out))
  have HX1 : Hid (Ob (w2.alloc zeroE) w2.heap.size 36 zE) := hid (heap_alloc_new w2 zeroE)
  have HR1 : Hid (Rd 87 F (w2.alloc zeroE) p s1) := hid (hr.alloc _)
  have HW1 : Hid (w.grownBy (w2.alloc zeroE) (some p)) := hid (grownAlloc hgw _)
  have hqx := hid hq
  clear hr hg hgw hsz2 hszz HZ0 H0 hq
  go_wp2_with (first | ((with_reducible refine storeR (x := ?sx1) (y := ?sy1) (b := ?sb1) (T := 36) (⟨c, 0, 0, 0, 0, ⟨none, 0, 0⟩, 0, 0, ⟨none, 0, 0⟩, false, false, 0, ⟨none, 0, 0⟩⟩ : Ev) ?sg1 ?so1 ?sxx1 ?syy1 ?sc1 ?sh1); (case sg1 => rfl); (case so1 => rfl); (case sxx1 => rfl); (case syy1 => rfl); (case sc1 => exact Ob.room (e := zE) HX1.out); intro W3 hO hU; have hX3 := hid hO; have hU3 := hid hU; clear hO hU) | fail)
  have HX : Hid (Ob W3 q 36 (⟨c, 0, 0, 0, 0, ⟨none, 0, 0⟩, 0, 0, ⟨none, 0, 0⟩, false, false, 0, ⟨none, 0, 0⟩⟩ : Ev)) := hid (by rw [hqx.out]; exact hX3.out)
  have HZ : Hid (Ob W3 w.heap.size 36 zE) := hid (hU3.out.ob HZ1.out (by rw [← hqx.out]; exact hzq.out))
  have HR : Hid (Rd 87 F W3 p s1) := hid (HR1.out.keptN (updGrown hU3.out) (fun k hk => by cases hk; rw [← hqx.out]; exact ⟨hqp.out, hqF.out⟩))
  have HW : Hid (w.grownBy W3 (some p)) := hid (grownThen HW1.out (updGrown hU3.out) (fun k hk => by cases hk; rw [← hqx.out]; exact hqw.out))
  have hF := fun k (hk : F k) => Nat.lt_of_lt_of_le (hFp.out k hk) HW.out.size
  rw [← hqx.out]
  clear hX3 hU3 HZ1 HX1 HR1 HW1 hqx
  generalize Value.agg #[.int .i64 c.i, .int .i64 c.k, .int .i64 c.s, .int .i64 c.t, .int .i64 c.d, .int .i64 c.p, .int .i64 c.q, .int .i64 0, .int .i64 0, .int .i64 0, .int .i64 0, .slice none 0 0, .int .i64 0, .int .i64 0, .slice none 0 0, .bool false, .bool false, .int .i64 0, .slice none 0 0] = u9
  go_at_call 80
  refine (rNumX HH.out.2.1 HR.out).mono ?_
  rintro x w3 ⟨rfl, hr, hg⟩
  clear hF
  have GZ := hid (obGrow HZ.out hg hzp.out)
  have GX := hid (obGrow HX.out hg hqp.out)
  have GR := hid hr
  have GW := hid (grownTrans HW.out hg)
  clear hr hg
  clear HZ HX HR HW
  have HZ := GZ; clear GZ
  have HX := GX; clear GX
  have HR := GR; clear GR
  have HW := GW; clear GW
  have hF := fun k (hk : F k) => Nat.lt_of_lt_of_le (hFp.out k hk) HW.out.size
  have k7 : w3.cell? ⟨q, 7, none⟩ = some (.int .i64 0) := Ob.cell (e := (⟨c, 0, 0, 0, 0, ⟨none, 0, 0⟩, 0, 0, ⟨none, 0, 0⟩, false, false, 0, ⟨none, 0, 0⟩⟩ : Ev)) HX.out (j := 7) rfl
  have z7 : w3.frozen? ⟨q, 7, none⟩ = false := Ob.free (e := (⟨c, 0, 0, 0, 0, ⟨none, 0, 0⟩, 0, 0, ⟨none, 0, 0⟩, false, false, 0, ⟨none, 0, 0⟩⟩ : Ev)) HX.out 7
  go_wp2_with fail
  have GZ := hid (setOther (q := q) (j := 7) (v := .int .i64 a1) HZ.out hzq.out)
  have GX := hid (Ob.set (e := (⟨c, 0, 0, 0, 0, ⟨none, 0, 0⟩, 0, 0, ⟨none, 0, 0⟩, false, false, 0, ⟨none, 0, 0⟩⟩ : Ev)) (T := 36) HX.out (j := 7) (v := .int .i64 a1) (e' := (⟨c, a1, 0, 0, 0, ⟨none, 0, 0⟩, 0, 0, ⟨none, 0, 0⟩, false, false, 0, ⟨none, 0, 0⟩⟩ : Ev)) rfl)
  have GR := hid (rdSet (q := q) (j := 7) (v := .int .i64 a1) HR.out hqp.out hqF.out)
  have GW := hid (grownThen HW.out (grownSet _ ⟨q, 7, none⟩ (.int .i64 a1)) (fun k hk => by cases hk; exact hqw.out))
  clear HZ HX HR HW
  have HZ := GZ; clear GZ
  have HX := GX; clear GX
  have HR := GR; clear GR
  have HW := GW; clear GW
  clear k7 z7
  have hF := fun k (hk : F k) => Nat.lt_of_lt_of_le (hFp.out k hk) HW.out.size
  go_at_call 80
  refine (rNumX HH.out.2.2.1 HR.out).mono ?_
  rintro x w4 ⟨rfl, hr, hg⟩
  clear hF
  have GZ := hid (obGrow HZ.out hg hzp.out)
  have GX := hid (obGrow HX.out hg hqp.out)
  have GR := hid hr
  have GW := hid (grownTrans HW.out hg)
  clear hr hg
  clear HZ HX HR HW
  have HZ := GZ; clear GZ
  have HX := GX; clear GX
  have HR := GR; clear GR
  have HW := GW; clear GW
  have hF := fun k (hk : F k) => Nat.lt_of_lt_of_le (hFp.out k hk) HW.out.size
  have k8 : w4.cell? ⟨q, 8, none⟩ = some (.int .i64 0) := Ob.cell (e := (⟨c, a1, 0, 0, 0, ⟨none, 0, 0⟩, 0, 0, ⟨none, 0, 0⟩, false, false, 0, ⟨none, 0, 0⟩⟩ : Ev)) HX.out (j := 8) rfl
  have z8 : w4.frozen? ⟨q, 8, none⟩ = false := Ob.free (e := (⟨c, a1, 0, 0, 0, ⟨none, 0, 0⟩, 0, 0, ⟨none, 0, 0⟩, false, false, 0, ⟨none, 0, 0⟩⟩ : Ev)) HX.out 8
  go_wp2_with fail
  have GZ := hid (setOther (q := q) (j := 8) (v := .int .i64 a2) HZ.out hzq.out)
  have GX := hid (Ob.set (e := (⟨c, a1, 0, 0, 0, ⟨none, 0, 0⟩, 0, 0, ⟨none, 0, 0⟩, false, false, 0, ⟨none, 0, 0⟩⟩ : Ev)) (T := 36) HX.out (j := 8) (v := .int .i64 a2) (e' := (⟨c, a1, a2, 0, 0, ⟨none, 0, 0⟩, 0, 0, ⟨none, 0, 0⟩, false, false, 0, ⟨none, 0, 0⟩⟩ : Ev)) rfl)
  have GR := hid (rdSet (q := q) (j := 8) (v := .int .i64 a2) HR.out hqp.out hqF.out)
  have GW := hid (grownThen HW.out (grownSet _ ⟨q, 8, none⟩ (.int .i64 a2)) (fun k hk => by cases hk; exact hqw.out))
  clear HZ HX HR HW
  have HZ := GZ; clear GZ
  have HX := GX; clear GX
  have HR := GR; clear GR
  have HW := GW; clear GW
  clear k8 z8
  have hF := fun k (hk : F k) => Nat.lt_of_lt_of_le (hFp.out k hk) HW.out.size
  go_at_call 80
  refine (rNumX HH.out.2.2.2.1 HR.out).mono ?_
  rintro x w5 ⟨rfl, hr, hg⟩
  clear hF
  have GZ := hid (obGrow HZ.out hg hzp.out)
  have GX := hid (obGrow HX.out hg hqp.out)
  have GR := hid hr
  have GW := hid (grownTrans HW.out hg)
  clear hr hg
  clear HZ HX HR HW
  have HZ := GZ; clear GZ
  have HX := GX; clear GX
  have HR := GR; clear GR
  have HW := GW; clear GW
  have hF := fun k (hk : F k) => Nat.lt_of_lt_of_le (hFp.out k hk) HW.out.size
  have k9 : w5.cell? ⟨q, 9, none⟩ = some (.int .i64 0) := Ob.cell (e := (⟨c, a1, a2, 0, 0, ⟨none, 0, 0⟩, 0, 0, ⟨none, 0, 0⟩, false, false, 0, ⟨none, 0, 0⟩⟩ : Ev)) HX.out (j := 9) rfl
  have z9 : w5.frozen? ⟨q, 9, none⟩ = false := Ob.free (e := (⟨c, a1, a2, 0, 0, ⟨none, 0, 0⟩, 0, 0, ⟨none, 0, 0⟩, false, false, 0, ⟨none, 0, 0⟩⟩ : Ev)) HX.out 9
  go_wp2_with fail
  have GZ := hid (setOther (q := q) (j := 9) (v := .int .i64 a3) HZ.out hzq.out)
  have GX := hid (Ob.set (e := (⟨c, a1, a2, 0, 0, ⟨none, 0, 0⟩, 0, 0, ⟨none, 0, 0⟩, false, false, 0, ⟨none, 0, 0⟩⟩ : Ev)) (T := 36) HX.out (j := 9) (v := .int .i64 a3) (e' := (⟨c, a1, a2, a3, 0, ⟨none, 0, 0⟩, 0, 0, ⟨none, 0, 0⟩, false, false, 0, ⟨none, 0, 0⟩⟩ : Ev)) rfl)
  have GR := hid (rdSet (q := q) (j := 9) (v := .int .i64 a3) HR.out hqp.out hqF.out)
  have GW := hid (grownThen HW.out (grownSet _ ⟨q, 9, none⟩ (.int .i64 a3)) (fun k hk => by cases hk; exact hqw.out))
  clear HZ HX HR HW
  have HZ := GZ; clear GZ
  have HX := GX; clear GX
  have HR := GR; clear GR
  have HW := GW; clear GW
  clear k9 z9
  have hF := fun k (hk : F k) => Nat.lt_of_lt_of_le (hFp.out k hk) HW.out.size
  go_at_call 81
  refine (rValueX HH.out.2.2.2.2.1 HR.out hF).mono ?_
  rintro x w6 ⟨g4, c4, n4, rfl, ho, hr, hg⟩
  clear hF
  have B0 : p < (w5.setCell ⟨q, 9, none⟩ (.int .i64 a3)).heap.size := HR.out.lt
  have B1 : q < (w5.setCell ⟨q, 9, none⟩ (.int .i64 a3)).heap.size := (Array.getElem?_eq_some_iff.1 HX.out).1
  have hp4 := hid B0
  have hq4 := hid B1
  clear B0 B1
  have GZ := hid (obGrow HZ.out hg hzp.out)
  have GX := hid (obGrow HX.out hg hqp.out)
  have GR := hid hr
  have GW := hid (grownTrans HW.out hg)
  clear hr hg
  clear HZ HX HR HW
  have HZ := GZ; clear GZ
  have HX := GX; clear GX
  have HR := GR; clear GR
  have HW := GW; clear GW
  have hF := fun k (hk : F k) => Nat.lt_of_lt_of_le (hFp.out k hk) HW.out.size
  have H4 := hid ho
  clear ho
  have k10 : w6.cell? ⟨q, 10, none⟩ = some (.int .i64 0) := Ob.cell (e := (⟨c, a1, a2, a3, 0, ⟨none, 0, 0⟩, 0, 0, ⟨none, 0, 0⟩, false, false, 0, ⟨none, 0, 0⟩⟩ : Ev)) HX.out (j := 10) rfl
  have z10 : w6.frozen? ⟨q, 10, none⟩ = false := Ob.free (e := (⟨c, a1, a2, a3, 0, ⟨none, 0, 0⟩, 0, 0, ⟨none, 0, 0⟩, false, false, 0, ⟨none, 0, 0⟩⟩ : Ev)) HX.out 10
  have k11 : w6.cell? ⟨q, 11, none⟩ = some (.slice none 0 0) := Ob.cell (e := (⟨c, a1, a2, a3, 0, ⟨none, 0, 0⟩, 0, 0, ⟨none, 0, 0⟩, false, false, 0, ⟨none, 0, 0⟩⟩ : Ev)) HX.out (j := 11) rfl
  have z11 : w6.frozen? ⟨q, 11, none⟩ = false := Ob.free (e := (⟨c, a1, a2, a3, 0, ⟨none, 0, 0⟩, 0, 0, ⟨none, 0, 0⟩, false, false, 0, ⟨none, 0, 0⟩⟩ : Ev)) HX.out 11
  go_wp2_with fail
  have GZ := hid (setOther (q := q) (j := 11) (v := .slice g4 n4 c4) (setOther (q := q) (j := 10) (v := .int .i64 a4) HZ.out hzq.out) hzq.out)
  have GX := hid (Ob.set (e := (⟨c, a1, a2, a3, a4, ⟨none, 0, 0⟩, 0, 0, ⟨none, 0, 0⟩, false, false, 0, ⟨none, 0, 0⟩⟩ : Ev)) (T := 36) (Ob.set (e := (⟨c, a1, a2, a3, 0, ⟨none, 0, 0⟩, 0, 0, ⟨none, 0, 0⟩, false, false, 0, ⟨none, 0, 0⟩⟩ : Ev)) (T := 36) HX.out (j := 10) (v := .int .i64 a4) (e' := (⟨c, a1, a2, a3, a4, ⟨none, 0, 0⟩, 0, 0, ⟨none, 0, 0⟩, false, false, 0, ⟨none, 0, 0⟩⟩ : Ev)) rfl) (j := 11) (v := .slice g4 n4 c4) (e' := (⟨c, a1, a2, a3, a4, ⟨g4, n4, c4⟩, 0, 0, ⟨none, 0, 0⟩, false, false, 0, ⟨none, 0, 0⟩⟩ : Ev)) rfl)
  have GR := hid (rdSet (q := q) (j := 11) (v := .slice g4 n4 c4) (rdSet (q := q) (j := 10) (v := .int .i64 a4) HR.out hqp.out hqF.out) hqp.out hqF.out)
  have GW := hid (grownThen (grownThen HW.out (grownSet _ ⟨q, 10, none⟩ (.int .i64 a4)) (fun k hk => by cases hk; exact hqw.out)) (grownSet _ ⟨q, 11, none⟩ (.slice g4 n4 c4)) (fun k hk => by cases hk; exact hqw.out))
  have G4 := hid (ownSet (q := q) (j := 11) (u := .slice g4 n4 c4) (ownSet (q := q) (j := 10) (u := .int .i64 a4) H4.out hq4.out) hq4.out)
  clear HZ HX HR HW H4
  have HZ := GZ; clear GZ
  have HX := GX; clear GX
  have HR := GR; clear GR
  have HW := GW; clear GW
  have H4 := G4; clear G4
  clear k10 z10 k11 z11
  have hF := fun k (hk : F k) => Nat.lt_of_lt_of_le (hFp.out k hk) HW.out.size
  go_at_call 80
  refine (rNumX HH.out.2.2.2.2.2.1 HR.out).mono ?_
  rintro x w7 ⟨rfl, hr, hg⟩
  clear hF
  have GZ := hid (obGrow HZ.out hg hzp.out)
  have GX := hid (obGrow HX.out hg hqp.out)
  have GR := hid hr
  have GW := hid (grownTrans HW.out hg)
  have G4 := hid (H4.out.kept' hg hp4.out)
  clear hr hg
  clear HZ HX HR HW H4
  have HZ := GZ; clear GZ
  have HX := GX; clear GX
  have HR := GR; clear GR
  have HW := GW; clear GW
  have H4 := G4; clear G4
  have hF := fun k (hk : F k) => Nat.lt_of_lt_of_le (hFp.out k hk) HW.out.size
  have k12 : w7.cell? ⟨q, 12, none⟩ = some (.int .i64 0) := Ob.cell (e := (⟨c, a1, a2, a3, a4, ⟨g4, n4, c4⟩, 0, 0, ⟨none, 0, 0⟩, false, false, 0, ⟨none, 0, 0⟩⟩ : Ev)) HX.out (j := 12) rfl
  have z12 : w7.frozen? ⟨q, 12, none⟩ = false := Ob.free (e := (⟨c, a1, a2, a3, a4, ⟨g4, n4, c4⟩, 0, 0, ⟨none, 0, 0⟩, false, false, 0, ⟨none, 0, 0⟩⟩ : Ev)) HX.out 12
  go_wp2_with fail
  have GZ := hid (setOther (q := q) (j := 12) (v := .int .i64 a5) HZ.out hzq.out)
  have GX := hid (Ob.set (e := (⟨c, a1, a2, a3, a4, ⟨g4, n4, c4⟩, 0, 0, ⟨none, 0, 0⟩, false, false, 0, ⟨none, 0, 0⟩⟩ : Ev)) (T := 36) HX.out (j := 12) (v := .int .i64 a5) (e' := (⟨c, a1, a2, a3, a4, ⟨g4, n4, c4⟩, a5, 0, ⟨none, 0, 0⟩, false, false, 0, ⟨none, 0, 0⟩⟩ : Ev)) rfl)
  have GR := hid (rdSet (q := q) (j := 12) (v := .int .i64 a5) HR.out hqp.out hqF.out)
  have GW := hid (grownThen HW.out (grownSet _ ⟨q, 12, none⟩ (.int .i64 a5)) (fun k hk => by cases hk; exact hqw.out))
  have G4 := hid (ownSet (q := q) (j := 12) (u := .int .i64 a5) H4.out hq4.out)
  clear HZ HX HR HW H4
  have HZ := GZ; clear GZ
  have HX := GX; clear GX
  have HR := GR; clear GR
  have HW := GW; clear GW
  have H4 := G4; clear G4
  clear k12 z12
  have hF := fun k (hk : F k) => Nat.lt_of_lt_of_le (hFp.out k hk) HW.out.size
  go_at_call 81
  refine (rValueX HH.out.2.2.2.2.2.2.1 HR.out hF).mono ?_
  rintro x w8 ⟨g6, c6, n6, rfl, ho, hr, hg⟩
  clear hF
  have B0 : p < (w7.setCell ⟨q, 12, none⟩ (.int .i64 a5)).heap.size := HR.out.lt
  have B1 : q < (w7.setCell ⟨q, 12, none⟩ (.int .i64 a5)).heap.size := (Array.getElem?_eq_some_iff.1 HX.out).1
  have hp6 := hid B0
  have hq6 := hid B1
  clear B0 B1
  have GZ := hid (obGrow HZ.out hg hzp.out)
  have GX := hid (obGrow HX.out hg hqp.out)
  have GR := hid hr
  have GW := hid (grownTrans HW.out hg)
  have G4 := hid (H4.out.kept' hg hp4.out)
  clear hr hg
  clear HZ HX HR HW H4
  have HZ := GZ; clear GZ
  have HX := GX; clear GX
  have HR := GR; clear GR
  have HW := GW; clear GW
  have H4 := G4; clear G4
  have hF := fun k (hk : F k) => Nat.lt_of_lt_of_le (hFp.out k hk) HW.out.size
  have H6 := hid ho
  clear ho
  have k13 : w8.cell? ⟨q, 13, none⟩ = some (.int .i64 0) := Ob.cell (e := (⟨c, a1, a2, a3, a4, ⟨g4, n4, c4⟩, a5, 0, ⟨none, 0, 0⟩, false, false, 0, ⟨none, 0, 0⟩⟩ : Ev)) HX.out (j := 13) rfl
  have z13 : w8.frozen? ⟨q, 13, none⟩ = false := Ob.free (e := (⟨c, a1, a2, a3, a4, ⟨g4, n4, c4⟩, a5, 0, ⟨none, 0, 0⟩, false, false, 0, ⟨none, 0, 0⟩⟩ : Ev)) HX.out 13
  have k14 : w8.cell? ⟨q, 14, none⟩ = some (.slice none 0 0) := Ob.cell (e := (⟨c, a1, a2, a3, a4, ⟨g4, n4, c4⟩, a5, 0, ⟨none, 0, 0⟩, false, false, 0, ⟨none, 0, 0⟩⟩ : Ev)) HX.out (j := 14) rfl
  have z14 : w8.frozen? ⟨q, 14, none⟩ = false := Ob.free (e := (⟨c, a1, a2, a3, a4, ⟨g4, n4, c4⟩, a5, 0, ⟨none, 0, 0⟩, false, false, 0, ⟨none, 0, 0⟩⟩ : Ev)) HX.out 14
  go_wp2_with fail
  have GZ := hid (setOther (q := q) (j := 14) (v := .slice g6 n6 c6) (setOther (q := q) (j := 13) (v := .int .i64 a6) HZ.out hzq.out) hzq.out)
  have GX := hid (Ob.set (e := (⟨c, a1, a2, a3, a4, ⟨g4, n4, c4⟩, a5, a6, ⟨none, 0, 0⟩, false, false, 0, ⟨none, 0, 0⟩⟩ : Ev)) (T := 36) (Ob.set (e := (⟨c, a1, a2, a3, a4, ⟨g4, n4, c4⟩, a5, 0, ⟨none, 0, 0⟩, false, false, 0, ⟨none, 0, 0⟩⟩ : Ev)) (T := 36) HX.out (j := 13) (v := .int .i64 a6) (e' := (⟨c, a1, a2, a3, a4, ⟨g4, n4, c4⟩, a5, a6, ⟨none, 0, 0⟩, false, false, 0, ⟨none, 0, 0⟩⟩ : Ev)) rfl) (j := 14) (v := .slice g6 n6 c6) (e' := (⟨c, a1, a2, a3, a4, ⟨g4, n4, c4⟩, a5, a6, ⟨g6, n6, c6⟩, false, false, 0, ⟨none, 0, 0⟩⟩ : Ev)) rfl)
  have GR := hid (rdSet (q := q) (j := 14) (v := .slice g6 n6 c6) (rdSet (q := q) (j := 13) (v := .int .i64 a6) HR.out hqp.out hqF.out) hqp.out hqF.out)
  have GW := hid (grownThen (grownThen HW.out (grownSet _ ⟨q, 13, none⟩ (.int .i64 a6)) (fun k hk => by cases hk; exact hqw.out)) (grownSet _ ⟨q, 14, none⟩ (.slice g6 n6 c6)) (fun k hk => by cases hk; exact hqw.out))
  have G4 := hid (ownSet (q := q) (j := 14) (u := .slice g6 n6 c6) (ownSet (q := q) (j := 13) (u := .int .i64 a6) H4.out hq4.out) hq4.out)
  have G6 := hid (ownSet (q := q) (j := 14) (u := .slice g6 n6 c6) (ownSet (q := q) (j := 13) (u := .int .i64 a6) H6.out hq6.out) hq6.out)
  clear HZ HX HR HW H4 H6
  have HZ := GZ; clear GZ
  have HX := GX; clear GX
  have HR := GR; clear GR
  have HW := GW; clear GW
  have H4 := G4; clear G4
  have H6 := G6; clear G6
  clear k13 z13 k14 z14
  have hF := fun k (hk : F k) => Nat.lt_of_lt_of_le (hFp.out k hk) HW.out.size
  go_at_call 80
  refine (rNumX HH.out.2.2.2.2.2.2.2.1 HR.out).mono ?_
  rintro x w9 ⟨rfl, hr, hg⟩
  clear hF
  have GZ := hid (obGrow HZ.out hg hzp.out)
  have GX := hid (obGrow HX.out hg hqp.out)
  have GR := hid hr
  have GW := hid (grownTrans HW.out hg)
  have G4 := hid (H4.out.kept' hg hp4.out)
  have G6 := hid (H6.out.kept' hg hp6.out)
  clear hr hg
  clear HZ HX HR HW H4 H6
  have HZ := GZ; clear GZ
  have HX := GX; clear GX
  have HR := GR; clear GR
  have HW := GW; clear GW
  have H4 := G4; clear G4
  have H6 := G6; clear G6
  have hF := fun k (hk : F k) => Nat.lt_of_lt_of_le (hFp.out k hk) HW.out.size
  go_wp2_with fail
  have GZ := hid HZ.out
  have GX := hid HX.out
  have GR := hid HR.out
  have GW := hid HW.out
  have G4 := hid H4.out
  have G6 := hid H6.out
  clear HZ HX HR HW H4 H6
  have HZ := GZ; clear GZ
  have HX := GX; clear GX
  have HR := GR; clear GR
  have HW := GW; clear GW
  have H4 := G4; clear G4
  have H6 := G6; clear G6
  have hF := fun k (hk : F k) => Nat.lt_of_lt_of_le (hFp.out k hk) HW.out.size
  go_at_call 80
  refine (rNumX HH.out.2.2.2.2.2.2.2.2.1 HR.out).mono ?_
  rintro x w10 ⟨rfl, hr, hg⟩
  clear hF
  have GZ := hid (obGrow HZ.out hg hzp.out)
  have GX := hid (obGrow HX.out hg hqp.out)
  have GR := hid hr
  have GW := hid (grownTrans HW.out hg)
  have G4 := hid (H4.out.kept' hg hp4.out)
  have G6 := hid (H6.out.kept' hg hp6.out)
  clear hr hg
  clear HZ HX HR HW H4 H6
  have HZ := GZ; clear GZ
  have HX := GX; clear GX
  have HR := GR; clear GR
  have HW := GW; clear GW
  have H4 := G4; clear G4
  have H6 := G6; clear G6
  have hF := fun k (hk : F k) => Nat.lt_of_lt_of_le (hFp.out k hk) HW.out.size
  go_wp2_with fail
  have GZ := hid HZ.out
  have GX := hid HX.out
  have GR := hid HR.out
  have GW := hid HW.out
  have G4 := hid H4.out
  have G6 := hid H6.out
  clear HZ HX HR HW H4 H6
  have HZ := GZ; clear GZ
  have HX := GX; clear GX
  have HR := GR; clear GR
  have HW := GW; clear GW
  have H4 := G4; clear G4
  have H6 := G6; clear G6
  have hF := fun k (hk : F k) => Nat.lt_of_lt_of_le (hFp.out k hk) HW.out.size
  go_at_call 81
  refine (rValueX HH.out.2.2.2.2.2.2.2.2.2 HR.out hF).mono ?_
  rintro x w11 ⟨g9, c9, n9, rfl, ho, hr, hg⟩
  clear hF
  have B0 : p < w10.heap.size := HR.out.lt
  have B1 : q < w10.heap.size := (Array.getElem?_eq_some_iff.1 HX.out).1
  have hp9 := hid B0
  have hq9 := hid B1
  clear B0 B1
  have GZ := hid (obGrow HZ.out hg hzp.out)
  have GX := hid (obGrow HX.out hg hqp.out)
  have GR := hid hr
  have GW := hid (grownTrans HW.out hg)
  have G4 := hid (H4.out.kept' hg hp4.out)
  have G6 := hid (H6.out.kept' hg hp6.out)
  clear hr hg
  clear HZ HX HR HW H4 H6
  have HZ := GZ; clear GZ
  have HX := GX; clear GX
  have HR := GR; clear GR
  have HW := GW; clear GW
  have H4 := G4; clear G4
  have H6 := G6; clear G6
  have hF := fun k (hk : F k) => Nat.lt_of_lt_of_le (hFp.out k hk) HW.out.size
  have H9 := hid ho
  clear ho hF
  have k17 : w11.cell? ⟨q, 17, none⟩ = some (.int .i64 0) := Ob.cell (e := (⟨c, a1, a2, a3, a4, ⟨g4, n4, c4⟩, a5, a6, ⟨g6, n6, c6⟩, false, false, 0, ⟨none, 0, 0⟩⟩ : Ev)) HX.out (j := 17) rfl
  have z17 : w11.frozen? ⟨q, 17, none⟩ = false := Ob.free (e := (⟨c, a1, a2, a3, a4, ⟨g4, n4, c4⟩, a5, a6, ⟨g6, n6, c6⟩, false, false, 0, ⟨none, 0, 0⟩⟩ : Ev)) HX.out 17
  have k18 : w11.cell? ⟨q, 18, none⟩ = some (.slice none 0 0) := Ob.cell (e := (⟨c, a1, a2, a3, a4, ⟨g4, n4, c4⟩, a5, a6, ⟨g6, n6, c6⟩, false, false, 0, ⟨none, 0, 0⟩⟩ : Ev)) HX.out (j := 18) rfl
  have z18 : w11.frozen? ⟨q, 18, none⟩ = false := Ob.free (e := (⟨c, a1, a2, a3, a4, ⟨g4, n4, c4⟩, a5, a6, ⟨g6, n6, c6⟩, false, false, 0, ⟨none, 0, 0⟩⟩ : Ev)) HX.out 18
  have k15 : w11.cell? ⟨q, 15, none⟩ = some (.bool false) := Ob.cell (e := (⟨c, a1, a2, a3, a4, ⟨g4, n4, c4⟩, a5, a6, ⟨g6, n6, c6⟩, false, false, 0, ⟨none, 0, 0⟩⟩ : Ev)) HX.out (j := 15) rfl
  have z15 : w11.frozen? ⟨q, 15, none⟩ = false := Ob.free (e := (⟨c, a1, a2, a3, a4, ⟨g4, n4, c4⟩, a5, a6, ⟨g6, n6, c6⟩, false, false, 0, ⟨none, 0, 0⟩⟩ : Ev)) HX.out 15
  have k16 : w11.cell? ⟨q, 16, none⟩ = some (.bool false) := Ob.cell (e := (⟨c, a1, a2, a3, a4, ⟨g4, n4, c4⟩, a5, a6, ⟨g6, n6, c6⟩, false, false, 0, ⟨none, 0, 0⟩⟩ : Ev)) HX.out (j := 16) rfl
  have z16 : w11.frozen? ⟨q, 16, none⟩ = false := Ob.free (e := (⟨c, a1, a2, a3, a4, ⟨g4, n4, c4⟩, a5, a6, ⟨g6, n6, c6⟩, false, false, 0, ⟨none, 0, 0⟩⟩ : Ev)) HX.out 16
  go_upto_region 13 with fail
  have GZ := hid (setOther (q := q) (j := 16) (v := .bool ((a8 : Int) == 1)) (setOther (q := q) (j := 15) (v := .bool ((a7 : Int) == 1)) (setOther (q := q) (j := 18) (v := .slice g9 n9 c9) (setOther (q := q) (j := 17) (v := .int .i64 a9) HZ.out hzq.out) hzq.out) hzq.out) hzq.out)
  have GX := hid (Ob.set (e := (⟨c, a1, a2, a3, a4, ⟨g4, n4, c4⟩, a5, a6, ⟨g6, n6, c6⟩, ((a7 : Int) == 1), false, a9, ⟨g9, n9, c9⟩⟩ : Ev)) (T := 36) (Ob.set (e := (⟨c, a1, a2, a3, a4, ⟨g4, n4, c4⟩, a5, a6, ⟨g6, n6, c6⟩, false, false, a9, ⟨g9, n9, c9⟩⟩ : Ev)) (T := 36) (Ob.set (e := (⟨c, a1, a2, a3, a4, ⟨g4, n4, c4⟩, a5, a6, ⟨g6, n6, c6⟩, false, false, a9, ⟨none, 0, 0⟩⟩ : Ev)) (T := 36) (Ob.set (e := (⟨c, a1, a2, a3, a4, ⟨g4, n4, c4⟩, a5, a6, ⟨g6, n6, c6⟩, false, false, 0, ⟨none, 0, 0⟩⟩ : Ev)) (T := 36) HX.out (j := 17) (v := .int .i64 a9) (e' := (⟨c, a1, a2, a3, a4, ⟨g4, n4, c4⟩, a5, a6, ⟨g6, n6, c6⟩, false, false, a9, ⟨none, 0, 0⟩⟩ : Ev)) rfl) (j := 18) (v := .slice g9 n9 c9) (e' := (⟨c, a1, a2, a3, a4, ⟨g4, n4, c4⟩, a5, a6, ⟨g6, n6, c6⟩, false, false, a9, ⟨g9, n9, c9⟩⟩ : Ev)) rfl) (j := 15) (v := .bool ((a7 : Int) == 1)) (e' := (⟨c, a1, a2, a3, a4, ⟨g4, n4, c4⟩, a5, a6, ⟨g6, n6, c6⟩, ((a7 : Int) == 1), false, a9, ⟨g9, n9, c9⟩⟩ : Ev)) rfl) (j := 16) (v := .bool ((a8 : Int) == 1)) (e' := (⟨c, a1, a2, a3, a4, ⟨g4, n4, c4⟩, a5, a6, ⟨g6, n6, c6⟩, ((a7 : Int) == 1), ((a8 : Int) == 1), a9, ⟨g9, n9, c9⟩⟩ : Ev)) rfl)
  have GR := hid (rdSet (q := q) (j := 16) (v := .bool ((a8 : Int) == 1)) (rdSet (q := q) (j := 15) (v := .bool ((a7 : Int) == 1)) (rdSet (q := q) (j := 18) (v := .slice g9 n9 c9) (rdSet (q := q) (j := 17) (v := .int .i64 a9) HR.out hqp.out hqF.out) hqp.out hqF.out) hqp.out hqF.out) hqp.out hqF.out)
  have GW := hid (grownThen (grownThen (grownThen (grownThen HW.out (grownSet _ ⟨q, 17, none⟩ (.int .i64 a9)) (fun k hk => by cases hk; exact hqw.out)) (grownSet _ ⟨q, 18, none⟩ (.slice g9 n9 c9)) (fun k hk => by cases hk; exact hqw.out)) (grownSet _ ⟨q, 15, none⟩ (.bool ((a7 : Int) == 1))) (fun k hk => by cases hk; exact hqw.out)) (grownSet _ ⟨q, 16, none⟩ (.bool ((a8 : Int) == 1))) (fun k hk => by cases hk; exact hqw.out))
  have G4 := hid (ownSet (q := q) (j := 16) (u := .bool ((a8 : Int) == 1)) (ownSet (q := q) (j := 15) (u := .bool ((a7 : Int) == 1)) (ownSet (q := q) (j := 18) (u := .slice g9 n9 c9) (ownSet (q := q) (j := 17) (u := .int .i64 a9) H4.out hq4.out) hq4.out) hq4.out) hq4.out)
  have G6 := hid (ownSet (q := q) (j := 16) (u := .bool ((a8 : Int) == 1)) (ownSet (q := q) (j := 15) (u := .bool ((a7 : Int) == 1)) (ownSet (q := q) (j := 18) (u := .slice g9 n9 c9) (ownSet (q := q) (j := 17) (u := .int .i64 a9) H6.out hq6.out) hq6.out) hq6.out) hq6.out)
  have G9 := hid (ownSet (q := q) (j := 16) (u := .bool ((a8 : Int) == 1)) (ownSet (q := q) (j := 15) (u := .bool ((a7 : Int) == 1)) (ownSet (q := q) (j := 18) (u := .slice g9 n9 c9) (ownSet (q := q) (j := 17) (u := .int .i64 a9) H9.out hq9.out) hq9.out) hq9.out) hq9.out)
  clear HZ HX HR HW H4 H6 H9
  have HZ := GZ; clear GZ
  have HX := GX; clear GX
  have HR := GR; clear GR
  have HW := GW; clear GW
  have H4 := G4; clear G4
  have H6 := G6; clear G6
  have H9 := G9; clear G9
  clear k17 z17 k18 z18 k15 z15 k16 z16
  obtain ⟨W, hW⟩ : ∃ W, W = ((((w11.setCell ⟨q, 17, none⟩ (.int .i64 a9)).setCell ⟨q, 18, none⟩ (.slice g9 n9 c9)).setCell ⟨q, 15, none⟩ (.bool ((a7 : Int) == 1))).setCell ⟨q, 16, none⟩ (.bool ((a8 : Int) == 1))) := ⟨_, rfl⟩
  have hEv : (⟨c, a1, a2, a3, a4, ⟨g4, n4, c4⟩, a5, a6, ⟨g6, n6, c6⟩, ((a7 : Int) == 1), ((a8 : Int) == 1), a9, ⟨g9, n9, c9⟩⟩ : Ev) = (⟨c, a1, a2, a3, (a4, l4), a5, (a6, l6), a7, a8, (a9, l9), s10⟩ : Tk).ev ⟨g4, n4, c4⟩ ⟨g6, n6, c6⟩ ⟨g9, n9, c9⟩ := by unfold Tk.ev; rw [beq_dec, beq_dec]
  have HX5 : Hid (Ob ((((w11.setCell ⟨q, 17, none⟩ (.int .i64 a9)).setCell ⟨q, 18, none⟩ (.slice g9 n9 c9)).setCell ⟨q, 15, none⟩ (.bool ((a7 : Int) == 1))).setCell ⟨q, 16, none⟩ (.bool ((a8 : Int) == 1))) q 36 ((⟨c, a1, a2, a3, (a4, l4), a5, (a6, l6), a7, a8, (a9, l9), s10⟩ : Tk).ev ⟨g4, n4, c4⟩ ⟨g6, n6, c6⟩ ⟨g9, n9, c9⟩)) := hid (hEv ▸ HX.out)
  clear HX
  have HX := HX5; clear HX5
  rw [← hW] at HX HZ HR HW H4 H6 H9 ⊢
  clear hW hEv hF
  obtain ⟨E, hE⟩ : ∃ E, E = (⟨c, a1, a2, a3, (a4, l4), a5, (a6, l6), a7, a8, (a9, l9), s10⟩ : Tk).ev ⟨g4, n4, c4⟩ ⟨g6, n6, c6⟩ ⟨g9, n9, c9⟩ := ⟨_, rfl⟩
  have hrt : rightE E l4 l6 l9 = (⟨c, a1, a2, a3, (a4, l4), a5, (a6, l6), a7, a8, (a9, l9), s10⟩ : Tk).right := by rw [hE]; rfl
  rw [← hE] at HX
  have HE := hid hE
  have L4 : Hid (l4.length ≤ 1024) := hid (by have := valueS_short s4; rw [HH.out.2.2.2.2.1] at this; exact this)
  have L6 : Hid (l6.length ≤ 1024) := hid (by have := valueS_short s6; rw [HH.out.2.2.2.2.2.2.1] at this; exact this)
  have L9 : Hid (l9.length ≤ 1024) := hid (by have := valueS_short s9; rw [HH.out.2.2.2.2.2.2.2.2.2] at this; exact this)
  obtain ⟨rg, hrg⟩ : ∃ rg, rg = (⟨c, a1, a2, a3, (a4, l4), a5, (a6, l6), a7, a8, (a9, l9), s10⟩ : Tk).right := ⟨_, rfl⟩
  rw [← hrg] at hrt
  have hfn : (⟨c, a1, a2, a3, (a4, l4), a5, (a6, l6), a7, a8, (a9, l9), s10⟩ : Tk).fin = if s10.2 = 0 ∧ ¬ (a7 ≤ 1 ∧ a8 ≤ 1 ∧ rg = true) then (s10.1, 2) else s10 := by rw [hrg]; rfl
  have HFN := hid hfn
  have hzF : Hid (¬ F w.heap.size) := hid (fun hk => by have := hFp.out _ hk; omega)
  have q4 : Hid (w.heap.size < _) := hid (Nat.lt_of_le_of_lt hqw.out hq4.out)
  have q6 : Hid (w.heap.size < _) := hid (Nat.lt_of_le_of_lt hqw.out hq6.out)
  have q9 : Hid (w.heap.size < _) := hid (Nat.lt_of_le_of_lt hqw.out hq9.out)
  have hRt := rRightE (e := E) (w := W) (by have h := H4.out.sl; rw [hE]; exact h) (by have h := H6.out.sl; rw [hE]; exact h) (by have h := H9.out.sl; rw [hE]; exact h) L4.out L6.out L9.out
  rw [hrt] at hRt
  clear hE hrt hrg hfn HH
  go_wp2_with (first | ((with_reducible refine loadR (x := ?lx11) (b := ?lb11) (T := 36) E ?lg11 ?lo11 ?lxx11 ?lc11 ?lh11); (case lg11 => rfl); (case lo11 => rfl); (case lxx11 => rfl); (case lc11 => exact HX.out)) | fail)
  go_at_call 12
  refine hRt.mono ?_
  rintro x w12 ⟨rfl, hB⟩
  have GX : Hid (Ob w12 q 36 E) := hid (heapB HX.out hB (Array.getElem?_eq_some_iff.1 HX.out).1)
  have GZ : Hid (Ob w12 w.heap.size 36 zE) := hid (heapB HZ.out hB (Array.getElem?_eq_some_iff.1 HZ.out).1)
  have GR := hid (HR.out.on hB)
  have GW := hid (grownUnder HW.out (hB.mono HW.out.size))
  have J4 := hid (own_sl_below H4.out hB)
  have J6 := hid (own_sl_below H6.out hB)
  have J9 := hid (own_sl_below H9.out hB)
  clear HX HZ HR HW H4 H6 H9 hB hRt
  have HX := GX; clear GX
  have HZ := GZ; clear GZ
  have HR := GR; clear GR
  have HW := GW; clear GW
  obtain ⟨rv, hrp, hrlt, rc0, rc1, rf0, rf1, _⟩ := HR.out.cells
  clear hrp rc0 rf0
  obtain ⟨er, her⟩ : ∃ er, er = s10.2 := ⟨_, rfl⟩
  rw [← her] at rc1
  have HX2 : Hid (Ob (w12.setCell ⟨p, 1, none⟩ (.int .i64 2)) q 36 E) := hid (setOther HX.out hqp.out)
  have HZ2 : Hid (Ob (w12.setCell ⟨p, 1, none⟩ (.int .i64 2)) w.heap.size 36 zE) := hid (setOther HZ.out hzp.out)
  have HR2 := hid (rdErr HR.out 2)
  have HW2 := hid (grownTrans HW.out (grownSet w12 ⟨p, 1, none⟩ (.int .i64 2)))
  have K4 := hid (J4.out.kept' (grownSet w12 ⟨p, 1, none⟩ (.int .i64 2)) hp4.out)
  have K6 := hid (J6.out.kept' (grownSet w12 ⟨p, 1, none⟩ (.int .i64 2)) hp6.out)
  have K9 := hid (J9.out.kept' (grownSet w12 ⟨p, 1, none⟩ (.int .i64 2)) hp9.out)
  clear hp4 hp6 hp9 hq4 hq6 hq9
  by_cases hA : er = 0
  · rw [hA] at rc1
    have hs0 : s10.2 = 0 := by rw [← her, hA]
    have HS0 := hid hs0
    clear her hA hs0
    by_cases hC : a7 ≤ 1
    · have hC2 : ¬ (1 : Int) < (a7 : Int) := by omega
      have hC3 : decide ((1 : Int) < (a7 : Int)) = false := decide_eq_false hC2
      by_cases hD : a8 ≤ 1
      · have hD2 : ¬ (1 : Int) < (a8 : Int) := by omega
        have hD3 : decide ((1 : Int) < (a8 : Int)) = false := decide_eq_false hD2
        have HCD := hid (And.intro hC hD)
        clear hC hD
        rcases hE : rg with _ | _
        · have hfin : Hid ((⟨c, a1, a2, a3, (a4, l4), a5, (a6, l6), a7, a8, (a9, l9), s10⟩ : Tk).fin = (s10.1, 2)) := hid (by rw [HFN.out, if_pos ⟨HS0.out, by rw [hE]; simp⟩])
          clear hE
          go_wp2_with (first | ((with_reducible refine loadR (x := ?lx12) (b := ?lb12) (T := 36) E ?lg12 ?lo12 ?lxx12 ?lc12 ?lh12); (case lg12 => rfl); (case lo12 => rfl); (case lxx12 => rfl); (case lc12 => exact HX2.out)) | ((with_reducible refine storeR (x := ?sx13) (y := ?sy13) (b := ?sb13) (T := 36) E ?sg13 ?so13 ?sxx13 ?syy13 ?sc13 ?sh13); (case sg13 => rfl); (case so13 => rfl); (case sxx13 => rfl); (case syy13 => rfl); (case sc13 => exact Ob.room (e := zE) HZ2.out); intro W9 hO hU; have hZ9 := hid hO; have hG9 := hid (grownThen HW2.out (updGrown hU) (fun k hk => by cases hk; exact Nat.le_refl _)); have hR9 := hid (HR2.out.keptN (updGrown hU) (fun k hk => by cases hk; exact ⟨hzp.out, hzF.out⟩)); have o4 := hid (ownUpd K4.out hU q4.out); have o6 := hid (ownUpd K6.out hU q6.out); have o9 := hid (ownUpd K9.out hU q9.out); clear hO hU) | fail)
          refine bodyPost_ret (ret_cell1 rfl rfl (Ob.range (e := E) hZ9.out) Try.underlying36 rfl (infoE E)) rfl (TakePost.make (a := ⟨g4, n4, c4⟩) (b := ⟨g6, n6, c6⟩) (c := ⟨g9, n9, c9⟩) HE.out o4.out o6.out o9.out (Nat.le_of_lt q4.out) (Nat.le_of_lt q6.out) (Nat.le_of_lt q9.out) (by rw [hfin.out]; exact hR9.out) hG9.out)
        · have hfin : Hid ((⟨c, a1, a2, a3, (a4, l4), a5, (a6, l6), a7, a8, (a9, l9), s10⟩ : Tk).fin = s10) := hid (by rw [HFN.out, if_neg (fun hh => hh.2 ⟨HCD.out.1, HCD.out.2, hE⟩)])
          clear hE
          go_wp2_with (first | ((with_reducible refine loadR (x := ?lx14) (b := ?lb14) (T := 36) E ?lg14 ?lo14 ?lxx14 ?lc14 ?lh14); (case lg14 => rfl); (case lo14 => rfl); (case lxx14 => rfl); (case lc14 => exact HX.out)) | ((with_reducible refine storeR (x := ?sx15) (y := ?sy15) (b := ?sb15) (T := 36) E ?sg15 ?so15 ?sxx15 ?syy15 ?sc15 ?sh15); (case sg15 => rfl); (case so15 => rfl); (case sxx15 => rfl); (case syy15 => rfl); (case sc15 => exact Ob.room (e := zE) HZ.out); intro W9 hO hU; have hZ9 := hid hO; have hG9 := hid (grownThen HW.out (updGrown hU) (fun k hk => by cases hk; exact Nat.le_refl _)); have hR9 := hid (HR.out.keptN (updGrown hU) (fun k hk => by cases hk; exact ⟨hzp.out, hzF.out⟩)); have o4 := hid (ownUpd J4.out hU q4.out); have o6 := hid (ownUpd J6.out hU q6.out); have o9 := hid (ownUpd J9.out hU q9.out); clear hO hU) | fail)
          refine bodyPost_ret (ret_cell1 rfl rfl (Ob.range (e := E) hZ9.out) Try.underlying36 rfl (infoE E)) rfl (TakePost.make (a := ⟨g4, n4, c4⟩) (b := ⟨g6, n6, c6⟩) (c := ⟨g9, n9, c9⟩) HE.out o4.out o6.out o9.out (Nat.le_of_lt q4.out) (Nat.le_of_lt q6.out) (Nat.le_of_lt q9.out) (by rw [hfin.out]; exact hR9.out) hG9.out)
      · have hfin : Hid ((⟨c, a1, a2, a3, (a4, l4), a5, (a6, l6), a7, a8, (a9, l9), s10⟩ : Tk).fin = (s10.1, 2)) := hid (by rw [HFN.out, if_pos ⟨HS0.out, fun hh => hD hh.2.1⟩])
        have hD2 : (1 : Int) < (a8 : Int) := by omega
        have hD3 : decide ((1 : Int) < (a8 : Int)) = true := decide_eq_true hD2
        clear hC hD
        go_wp2_with (first | ((with_reducible refine loadR (x := ?lx16) (b := ?lb16) (T := 36) E ?lg16 ?lo16 ?lxx16 ?lc16 ?lh16); (case lg16 => rfl); (case lo16 => rfl); (case lxx16 => rfl); (case lc16 => exact HX2.out)) | ((with_reducible refine storeR (x := ?sx17) (y := ?sy17) (b := ?sb17) (T := 36) E ?sg17 ?so17 ?sxx17 ?syy17 ?sc17 ?sh17); (case sg17 => rfl); (case so17 => rfl); (case sxx17 => rfl); (case syy17 => rfl); (case sc17 => exact Ob.room (e := zE) HZ2.out); intro W9 hO hU; have hZ9 := hid hO; have hG9 := hid (grownThen HW2.out (updGrown hU) (fun k hk => by cases hk; exact Nat.le_refl _)); have hR9 := hid (HR2.out.keptN (updGrown hU) (fun k hk => by cases hk; exact ⟨hzp.out, hzF.out⟩)); have o4 := hid (ownUpd K4.out hU q4.out); have o6 := hid (ownUpd K6.out hU q6.out); have o9 := hid (ownUpd K9.out hU q9.out); clear hO hU) | fail)
        refine bodyPost_ret (ret_cell1 rfl rfl (Ob.range (e := E) hZ9.out) Try.underlying36 rfl (infoE E)) rfl (TakePost.make (a := ⟨g4, n4, c4⟩) (b := ⟨g6, n6, c6⟩) (c := ⟨g9, n9, c9⟩) HE.out o4.out o6.out o9.out (Nat.le_of_lt q4.out) (Nat.le_of_lt q6.out) (Nat.le_of_lt q9.out) (by rw [hfin.out]; exact hR9.out) hG9.out)
    · have hfin : Hid ((⟨c, a1, a2, a3, (a4, l4), a5, (a6, l6), a7, a8, (a9, l9), s10⟩ : Tk).fin = (s10.1, 2)) := hid (by rw [HFN.out, if_pos ⟨HS0.out, fun hh => hC hh.1⟩])
      have hC2 : (1 : Int) < (a7 : Int) := by omega
      have hC3 : decide ((1 : Int) < (a7 : Int)) = true := decide_eq_true hC2
      clear hC
      go_wp2_with (first | ((with_reducible refine loadR (x := ?lx18) (b := ?lb18) (T := 36) E ?lg18 ?lo18 ?lxx18 ?lc18 ?lh18); (case lg18 => rfl); (case lo18 => rfl); (case lxx18 => rfl); (case lc18 => exact HX2.out)) | ((with_reducible refine storeR (x := ?sx19) (y := ?sy19) (b := ?sb19) (T := 36) E ?sg19 ?so19 ?sxx19 ?syy19 ?sc19 ?sh19); (case sg19 => rfl); (case so19 => rfl); (case sxx19 => rfl); (case syy19 => rfl); (case sc19 => exact Ob.room (e := zE) HZ2.out); intro W9 hO hU; have hZ9 := hid hO; have hG9 := hid (grownThen HW2.out (updGrown hU) (fun k hk => by cases hk; exact Nat.le_refl _)); have hR9 := hid (HR2.out.keptN (updGrown hU) (fun k hk => by cases hk; exact ⟨hzp.out, hzF.out⟩)); have o4 := hid (ownUpd K4.out hU q4.out); have o6 := hid (ownUpd K6.out hU q6.out); have o9 := hid (ownUpd K9.out hU q9.out); clear hO hU) | fail)
      refine bodyPost_ret (ret_cell1 rfl rfl (Ob.range (e := E) hZ9.out) Try.underlying36 rfl (infoE E)) rfl (TakePost.make (a := ⟨g4, n4, c4⟩) (b := ⟨g6, n6, c6⟩) (c := ⟨g9, n9, c9⟩) HE.out o4.out o6.out o9.out (Nat.le_of_lt q4.out) (Nat.le_of_lt q6.out) (Nat.le_of_lt q9.out) (by rw [hfin.out]; exact hR9.out) hG9.out)
  · have hfin : Hid ((⟨c, a1, a2, a3, (a4, l4), a5, (a6, l6), a7, a8, (a9, l9), s10⟩ : Tk).fin = s10) := hid (by rw [HFN.out, if_neg (fun hh => hA (by rw [her]; exact hh.1))])
    have hA2 : (er == 0) = false := by simp [hA]
    have hA3 : ¬ er = 0 := hA
    clear her hA
    go_wp2_with (first | ((with_reducible refine loadR (x := ?lx20) (b := ?lb20) (T := 36) E ?lg20 ?lo20 ?lxx20 ?lc20 ?lh20); (case lg20 => rfl); (case lo20 => rfl); (case lxx20 => rfl); (case lc20 => exact HX.out)) | ((with_reducible refine storeR (x := ?sx21) (y := ?sy21) (b := ?sb21) (T := 36) E ?sg21 ?so21 ?sxx21 ?syy21 ?sc21 ?sh21); (case sg21 => rfl); (case so21 => rfl); (case sxx21 => rfl); (case syy21 => rfl); (case sc21 => exact Ob.room (e := zE) HZ.out); intro W9 hO hU; have hZ9 := hid hO; have hG9 := hid (grownThen HW.out (updGrown hU) (fun k hk => by cases hk; exact Nat.le_refl _)); have hR9 := hid (HR.out.keptN (updGrown hU) (fun k hk => by cases hk; exact ⟨hzp.out, hzF.out⟩)); have o4 := hid (ownUpd J4.out hU q4.out); have o6 := hid (ownUpd J6.out hU q6.out); have o9 := hid (ownUpd J9.out hU q9.out); clear hO hU) | fail)
    refine bodyPost_ret (ret_cell1 rfl rfl (Ob.range (e := E) hZ9.out) Try.underlying36 rfl (infoE E)) rfl (TakePost.make (a := ⟨g4, n4, c4⟩) (b := ⟨g6, n6, c6⟩) (c := ⟨g9, n9, c9⟩) HE.out o4.out o6.out o9.out (Nat.le_of_lt q4.out) (Nat.le_of_lt q6.out) (Nat.le_of_lt q9.out) (by rw [hfin.out]; exact hR9.out) hG9.out)
end Go.Proofs.Ytmndjdaiailgmaa
/- An entry of bytes: the document's Parse. -/
namespace Go.Proofs.Ytmndjdaiailgmaa
set_option linter.unusedVariables false
open Go.RowKit
open Go.Lib (hid)

theorem Tk.good_fin (t : Tk) : t.good = (decide (t.fin.2 = 0) && decide (t.fin.1.length = 0)) := by
  unfold Tk.good Tk.fin
  by_cases h0 : t.s.2 = 0
  · by_cases h1 : t.fr ≤ 1 ∧ t.dn ≤ 1 ∧ t.right = true
    · rw [if_neg (fun hh => hh.2 h1)]
      obtain ⟨a, b, c⟩ := h1
      simp [h0, a, b, c]
    · rw [if_pos ⟨h0, h1⟩]
      have : (decide (t.fr ≤ 1) && (decide (t.dn ≤ 1) && t.right)) = false := by
        rw [Bool.eq_false_iff]; intro hh
        simp only [Bool.and_eq_true, decide_eq_true_eq] at hh
        exact h1 hh
      simp only [this, Bool.and_false]
      rfl
  · rw [if_neg (fun hh => h0 hh.1)]
    simp [h0]
theorem obUnder {w w' : World} {q : Nat} {o : Obj} (h : w.heap[q]? = some o) (hb : Below w.heap.size w w') : w'.heap[q]? = some o := heapB h hb (Array.getElem?_eq_some_iff.1 h).1

theorem ownUpdNe {w W : World} {B k : Nat} {v : Value} {cs : List C7} (h : Own w B v cs) (hU : Upd k w W) (hk : ∀ j, v.ownBlock = some j → j ≠ k) : Own W B v cs := by
  refine ⟨h.1, ?_⟩
  rcases h.2 with h2 | ⟨g, cap, cur, rfl, h1, hg, r⟩
  · exact .inl h2
  · exact .inr ⟨g, cap, cur, rfl, h1, hU.ob hg (hk g rfl), r⟩
theorem rd_new {w : World} {v : Value} {bs : List UInt8} {B : Nat} (h : OwnB w B v bs) : Rd 87 (fun k => v.ownBlock = some k) (w.alloc (.cells #[v, .int .i64 0] 87)) w.heap.size (bs, 0) :=
  ⟨v, heap_alloc_new w _, h.slb.on ((Below.refl _ w).alloc (Nat.le_refl _) _), fun k hk => hk, fun hk => by have := (h.lt _ hk).2; omega⟩

set_option maxHeartbeats 8000000 in
set_option maxRecDepth 100000 in
theorem rParse {vb : Value} {bs : List UInt8} {w : World} (h : SlB w vb bs) (hl : bs.length ≤ 1000000) :
    Calls Try.prog 16 #[vb] w fun x w' => DecPost (takeE (bs, 0)) w x w' := by
  obtain ⟨t, ht⟩ : ∃ t, t = takeE (bs, 0) := ⟨_, rfl⟩
  rw [← ht]
  have HT := hid ht
  clear ht
  have HS := hid h
  have hz0 : Ob (w.alloc zeroE) w.heap.size 36 zE := heap_alloc_new w zeroE
  have HZ0 := hid hz0
  have hb0 : Below w.heap.size w (w.alloc zeroE) := (Below.refl _ w).alloc (Nat.le_refl _) zeroE
  have HB0 := hid hb0
  obtain ⟨a, cap, n, rfl⟩ : ∃ a cap n, vb = .slice a n cap := by obtain ⟨_, _, cap, a, e, _⟩ := h; exact ⟨a, cap, _, e⟩
  clear h hz0 hb0
  have tok : Hid (0 = 0) := hid rfl
  go_enter Try.func16, Try.ntmps16
  go_wp2_with (first
    | (clear tok; (with_reducible refine opaqueW (w.alloc zeroE) ?_); intro W0 hW; rw [← hW] at HZ0 HB0; clear hW; have tok2 : Hid (0 = 0) := hid rfl)
    | (clear tok2; at_builtin; refine wpList_append_slb rfl _ _ rfl W0.heap.size _ [] rfl (OwnB.made W0) _ bs rfl (HS.out.on (HB0.out.trans (((Below.refl _ W0).alloc (Nat.le_refl _) (.cells #[] 5)).mono HB0.out.size))) (by simp; omega) (by simp) ?_; intro v5 w5 ho5 hg5; rw [List.nil_append] at ho5; have HB5 := hid (((Below.refl _ W0).alloc (Nat.le_refl _) (.cells #[] 5)).grown hg5 (by simp) (fun k hk => by cases hk; exact Nat.le_refl _)); obtain ⟨g5, c5, n5, rfl, hn5⟩ := ho5.asSlice; have HO5 := hid ho5; clear ho5 hg5 hn5)
    | fail)
  obtain ⟨F, hFe⟩ : ∃ F : Nat → Prop, F = (fun k => (Value.slice g5 n5 c5).ownBlock = some k) := ⟨_, rfl⟩
  have hR0 := rd_new HO5.out
  rw [← hFe] at hR0
  have hFlt : ∀ k, F k → k < w5.heap.size := fun k hk => by rw [hFe] at hk; exact (HO5.out.lt k hk).2
  have HFlt := hid hFlt
  have hzw : w.heap.size < W0.heap.size := (Array.getElem?_eq_some_iff.1 HZ0.out).1
  have hw5 := HB5.out.size
  have hzF : Hid (¬ F w.heap.size) := hid (fun hk => by rw [hFe] at hk; have := (HO5.out.lt _ hk).1; omega)
  have hzp : Hid (w.heap.size ≠ w5.heap.size) := hid (by omega)
  clear hFe
  go_at_call 57
  refine (rTake hR0 (fun k hk => by have := hFlt k hk; simp; omega)).mono ?_
  rintro x w6 ⟨sa, sb, sc, rfl, o1, o2, o3, hr, hg⟩
  rw [← HT.out] at o1 o2 o3 hr ⊢
  have hsz6 := hg.size
  simp only [World.size_alloc] at hsz6
  have HZ6 : Hid (Ob w6 w.heap.size 36 zE) := hid (obGrow (obAlloc (obUnder HZ0.out HB5.out)) hg hzp.out)
  have hB5 : Below w.heap.size w w5 := HB0.out.trans (HB5.out.mono HB0.out.size)
  have HB6 : Hid (Below w.heap.size w w6) := hid ((hB5.alloc hB5.size _).grown hg (by simp; omega) (fun k hk => by cases hk; omega))
  obtain ⟨p, hp⟩ : ∃ p, p = w5.heap.size := ⟨_, rfl⟩
  obtain ⟨E, hE⟩ : ∃ E, E = t.ev sa sb sc := ⟨_, rfl⟩
  rw [← hE]
  rw [← hp] at hr hzp ⊢
  have HE := hid hE
  have O1 := hid o1
  have O2 := hid o2
  have O3 := hid o3
  have HR6 := hid hr
  have HX6 : Hid (Ob (w6.alloc zeroE) w6.heap.size 36 zE) := hid (heap_alloc_new w6 zeroE)
  have hzq : Hid (w.heap.size ≠ w6.heap.size) := hid (by omega)
  have hpq : Hid (w6.heap.size ≠ p ∧ ¬ F w6.heap.size) := hid ⟨by omega, fun hk => by have := hFlt _ hk; omega⟩
  clear hE o1 o2 o3 hr hg hR0 hFlt hp HO5 HS HZ0 HB0 HB5 hB5
  go_upto_region 3 with (first
    | ((with_reducible refine storeR (x := ?sx1) (y := ?sy1) (b := ?sb1) (T := 36) E ?sg1 ?so1 ?sxx1 ?syy1 ?sc1 ?sh1); (case sg1 => rfl); (case so1 => rfl); (case sxx1 => rfl); (case syy1 => rfl); (case sc1 => exact Ob.room (e := zE) HX6.out); intro W7 hO hU; have HX := hid hO; have HZ := hid (hU.ob (obAlloc HZ6.out) hzq.out); have HR := hid ((HR6.out.alloc zeroE).keptN (updGrown hU) (fun k hk => by cases hk; exact hpq.out)); have HW := hid (HB6.out.alloc HB6.out.size zeroE |>.trans (hU.below _ (by omega))); have oa := hid (ownUpdNe (World.ownsRow.alloc O1.out zeroE) hU (fun j hj => by have := (O1.out.lt j hj).2; omega)); have ob := hid (ownUpdNe (World.ownsRow.alloc O2.out zeroE) hU (fun j hj => by have := (O2.out.lt j hj).2; omega)); have oc := hid (ownUpdNe (World.ownsRow.alloc O3.out zeroE) hU (fun j hj => by have := (O3.out.lt j hj).2; omega)); have la := hid (fun j (hj : sa.v.ownBlock = some j) => (show w.heap.size < j from by have := (O1.out.lt j hj).1; simp at this; omega)); have lb := hid (fun j (hj : sb.v.ownBlock = some j) => (show w.heap.size < j from by have := (O2.out.lt j hj).1; simp at this; omega)); have lc := hid (fun j (hj : sc.v.ownBlock = some j) => (show w.heap.size < j from by have := (O3.out.lt j hj).1; simp at this; omega)); clear hO hU)
    | fail)
  obtain ⟨q, hq⟩ : ∃ q, q = w6.heap.size := ⟨_, rfl⟩
  rw [← hq] at HX ⊢
  clear hq hzq hpq HX6 HR6 HZ6 O1 O2 O3 HB6 hsz6 hw5 hzw
  obtain ⟨rv, hrp, hrlt, rc0, rc1, rf0, rf1, hsb, _⟩ := HR.out.cells
  obtain ⟨ra, rn, rcp, rfl, hrn⟩ : ∃ ra rn rcp, rv = .slice ra rn rcp ∧ rn = t.fin.1.length := by obtain ⟨_, _, cap, a, e, _⟩ := hsb; exact ⟨a, _, cap, e, rfl⟩
  obtain ⟨er, her⟩ : ∃ er, er = t.fin.2 := ⟨_, rfl⟩
  rw [← her] at rc1
  have hgd := t.good_fin
  rw [← her, ← hrn] at hgd
  have HGD := hid hgd
  clear hrp rf0 rf1 hsb hrn her hgd
  by_cases hA : er = 0
  · subst hA
    by_cases hB : rn = 0
    · subst hB
      have hgood : Hid (t.good = true) := hid (by rw [HGD.out]; rfl)
      go_wp2_with (first | ((with_reducible refine loadR (x := ?lx5) (b := ?lb5) (T := 36) E ?lg5 ?lo5 ?lxx5 ?lc5 ?lh5); (case lg5 => rfl); (case lo5 => rfl); (case lxx5 => rfl); (case lc5 => exact HX.out)) | ((with_reducible refine storeR (x := ?sx4) (y := ?sy4) (b := ?sb4) (T := 36) E ?sg4 ?so4 ?sxx4 ?syy4 ?sc4 ?sh4); (case sg4 => rfl); (case so4 => rfl); (case sxx4 => rfl); (case syy4 => rfl); (case sc4 => exact Ob.room (e := zE) HZ.out); intro W9 hO hU; have hZ9 := hid hO; have hW9 := hid (HW.out.trans (hU.below _ (Nat.le_refl _))); have oa9 := hid (ownUpdNe oa.out hU (fun j hj => by have := la.out j hj; omega)); have ob9 := hid (ownUpdNe ob.out hU (fun j hj => by have := lb.out j hj; omega)); have oc9 := hid (ownUpdNe oc.out hU (fun j hj => by have := lc.out j hj; omega)); clear hO hU oa ob oc; have oa := oa9; have ob := ob9; have oc := oc9) | fail)
      refine bodyPost_ret (ret_cell_tmp rfl rfl rfl (Ob.range (e := E) hZ9.out) Try.underlying36 rfl (infoE E)) rfl (DecPost.yes (p := sa) (q := sb) (r := sc) hgood.out HE.out oa.out.sl ob.out.sl oc.out.sl hW9.out)
    · have hgood : Hid (t.good = false) := hid (by rw [HGD.out]; simp [hB])
      have hB3 : (0 : Int) < (rn : Int) := by omega
      have hB4 : decide ((0 : Int) < (rn : Int)) = true := decide_eq_true hB3
      clear hB
      go_wp2_with (first | ((with_reducible refine storeR (x := ?sx2) (y := ?sy2) (b := ?sb2) (T := 36) zE ?sg2 ?so2 ?sxx2 ?syy2 ?sc2 ?sh2); (case sg2 => rfl); (case so2 => rfl); (case sxx2 => rfl); (case syy2 => rfl); (case sc2 => exact Ob.room (e := zE) HZ.out); intro W9 hO hU; have hZ9 := hid hO; have hW9 := hid (HW.out.trans (hU.below _ (Nat.le_refl _))); clear hO hU) | fail)
      refine bodyPost_ret (ret_cell_tmp rfl rfl rfl (Ob.range (e := zE) hZ9.out) Try.underlying36 rfl (infoE zE)) rfl (DecPost.no hgood.out hW9.out)
  · have hgood : Hid (t.good = false) := hid (by rw [HGD.out]; simp [hA])
    have hA2 : (er == 0) = false := by simp [hA]
    go_wp2_with (first | ((with_reducible refine storeR (x := ?sx3) (y := ?sy3) (b := ?sb3) (T := 36) zE ?sg3 ?so3 ?sxx3 ?syy3 ?sc3 ?sh3); (case sg3 => rfl); (case so3 => rfl); (case sxx3 => rfl); (case syy3 => rfl); (case sc3 => exact Ob.room (e := zE) HZ.out); intro W9 hO hU; have hZ9 := hid hO; have hW9 := hid (HW.out.trans (hU.below _ (Nat.le_refl _))); clear hO hU) | fail)
    refine bodyPost_ret (ret_cell_tmp rfl rfl rfl (Ob.range (e := zE) hZ9.out) Try.underlying36 rfl (infoE zE)) rfl (DecPost.no hgood.out hW9.out)
end Go.Proofs.Ytmndjdaiailgmaa
namespace Go.Proofs.Ytmndjdaiailgmaa
set_option linter.unusedVariables false
open Go.RowKit
open Go.Lib (hid)

theorem ten_sl {w : World} {G C : Nat} {T : TypeId} {z : Array Value} {x0 x1 x2 x3 x4 x5 x6 x7 x8 x9 : Int} (hG : G = w.heap.size) : SlN ((w.alloc (.cells (#[.int .i64 x0, .int .i64 x1, .int .i64 x2, .int .i64 x3, .int .i64 x4, .int .i64 x5, .int .i64 x6] ++ (#[.int .i64 x7, .int .i64 x8, .int .i64 x9] ++ z)) T)).drew) (.slice (some ⟨G, 0, none⟩) 10 C) [x0, x1, x2, x3, x4, x5, x6, x7, x8, x9] := by
  subst hG
  have hg : ((w.alloc (.cells (#[.int .i64 x0, .int .i64 x1, .int .i64 x2, .int .i64 x3, .int .i64 x4, .int .i64 x5, .int .i64 x6] ++ (#[.int .i64 x7, .int .i64 x8, .int .i64 x9] ++ z)) T)).drew).heap[w.heap.size]? = some (.cells (#[.int .i64 x0, .int .i64 x1, .int .i64 x2, .int .i64 x3, .int .i64 x4, .int .i64 x5, .int .i64 x6] ++ (#[.int .i64 x7, .int .i64 x8, .int .i64 x9] ++ z)) T) := heap_alloc_new w _
  have hc := cellAt' hg
  refine ⟨w.heap.size, 0, C, _, rfl, fun _ => rfl, fun j x hx => ?_, fun _ => (Array.getElem?_eq_some_iff.1 hg).1⟩
  rw [Nat.zero_add, hc j, ← Array.getElem?_toList, Array.toList_append, Array.toList_append]
  match j, hx with
  | 0, hx => cases hx; rfl
  | 1, hx => cases hx; rfl
  | 2, hx => cases hx; rfl
  | 3, hx => cases hx; rfl
  | 4, hx => cases hx; rfl
  | 5, hx => cases hx; rfl
  | 6, hx => cases hx; rfl
  | 7, hx => cases hx; rfl
  | 8, hx => cases hx; rfl
  | 9, hx => cases hx; rfl
  | _ + 10, hx => cases hx
theorem obKept {w w' : World} {q : Nat} {o : Obj} {row : Option Nat} (h : w.heap[q]? = some o) (hg : w.grownBy w' row) (hne : ∀ k, row = some k → q ≠ k) : w'.heap[q]? = some o := by
  rw [hg.block q (Array.getElem?_eq_some_iff.1 h).1 (fun e => (hne q e.symm) rfl)]; exact h
theorem head_fine {e : Ev} {f a v : List C7} (h : FineE e f a v) : ∀ x ∈ [e.c.i, e.c.k, e.c.s, e.c.t, e.c.d, e.c.p, e.c.q, e.pr, e.lo, e.hi], 0 ≤ x ∧ x ≤ 1099511627776 := by
  obtain ⟨h0, h1, h2, h3, h4, h5, h6⟩ := C7.ok_small h.c
  have p := h.pr; have l := h.lo; have u := h.hi
  intro x hx
  simp at hx
  rcases hx with rfl | rfl | rfl | rfl | rfl | rfl | rfl | rfl | rfl | rfl <;> omega
theorem head_bytes (e : Ev) : putAll [e.c.i, e.c.k, e.c.s, e.c.t, e.c.d, e.c.p, e.c.q, e.pr, e.lo, e.hi] = cmdsB [e.c] ++ putAll [e.pr, e.lo, e.hi] := by
  rw [cmdsB_one]
  unfold putAll C7.bytes
  simp only [List.flatMap_cons, List.flatMap_nil, List.append_nil, List.append_assoc]
theorem rOne0 {x : Int} (hx : 0 ≤ x ∧ x ≤ 1099511627776) (w : World) : Calls Try.prog 55 #[.int .i64 x] w fun e w' => ∃ r, e = .returned r ∧ OwnB w' w.heap.size r (putAll [x]) ∧ Below w.heap.size w w' := by
  obtain ⟨m, rfl⟩ : ∃ m : Nat, x = m := ⟨x.toNat, by omega⟩
  refine (rOneN 5 m w (by omega) (by omega) (by omega)).mono ?_
  rintro e w' ⟨g, cap, rfl, ho, hB⟩
  have : putAll [((m : Nat) : Int)] = oneN m := by unfold putAll; simp
  rw [this]
  exact ⟨_, rfl, ho, hB⟩
theorem rPutN0 {v : Value} {l : List Int} {w : World} (h : SlN w v l) (hl : l.length ≤ 3000) (hf : ∀ x ∈ l, 0 ≤ x ∧ x ≤ 1099511627776) : Calls Try.prog 53 #[v] w fun e w' => ∃ r, e = .returned (.tuple #[r, .int .i64 0]) ∧ OwnB w' w.heap.size r (putAll l) ∧ Below w.heap.size w w' := by
  have := rPutN h hl
  rw [(put_fine hf).1, (put_fine hf).2] at this
  exact this
theorem rPutV0 {v : Value} {cs : List C7} {w : World} {t : Int} (h : Sl w v cs) (hl : cs.length ≤ 400) (hf : setB cs = true ∧ 0 ≤ t ∧ t ≤ 1099511627776) : Calls Try.prog 54 #[.agg #[.int .i64 t, v]] w fun e w' => ∃ r, e = .returned (.tuple #[r, .int .i64 0]) ∧ OwnB w' w.heap.size r (valueBytes t cs) ∧ Below w.heap.size w w' := by
  have := rPutValue t h hl
  rw [(putV_fine hf).1, (putV_fine hf).2] at this
  exact this

set_option maxHeartbeats 8000000 in
set_option maxRecDepth 100000 in
theorem rBytes {e : Ev} {f a v : List C7} {w : World} (hf : Sl w e.fp.v f) (ha : Sl w e.xp.v a) (hv : Sl w e.vp.v v) (lf : f.length ≤ 400) (la : a.length ≤ 400) (lv : v.length ≤ 400) (hr : rightE e f a v = true) :
    Calls Try.prog 15 #[.agg e.arr] w fun x w' => ∃ r, x = .returned r ∧ OwnB w' w.heap.size r (entB e f a v) ∧ Below w.heap.size w w' := by
  have HE := hid (right_fine hr)
  have HF := hid hf
  have HA := hid ha
  have HV := hid hv
  have HL := hid (And.intro lf (And.intro la lv))
  clear hf ha hv hr lf la lv
  have HX : Hid (Ob (w.alloc (.cells e.arr 36)) (w.heap.size) 36 e) := hid (laid1_0 w (.cells e.arr 36))
  have HW : Hid (Below w.heap.size w (w.alloc (.cells e.arr 36))) := hid (laid1_b w (.cells e.arr 36))
  obtain ⟨W0, hW0⟩ : ∃ W, W = w.alloc (.cells e.arr 36) := ⟨_, rfl⟩
  have HW0 := hid hW0
  go_enter Try.func15, Try.ntmps15
  rw [← hW0] at HX HW
  clear hW0
  go_upto_region 1 with fail
  rw [← HW0.out]
  clear HW0
  go_cut [3] from 14 to 24 (fun u wx => ∃ (G C : Nat), u = .slice (some ⟨G, 0, none⟩) 10 C ∧ Hid (Ob wx w.heap.size 36 e ∧ Below w.heap.size w wx ∧ SlN wx (.slice (some ⟨G, 0, none⟩) 10 C) [e.c.i, e.c.k, e.c.s, e.c.t, e.c.d, e.c.p, e.c.q, e.pr, e.lo, e.hi]))
  case first =>
    have k0 : W0.cell? ⟨w.heap.size, 0, none⟩ = some (.int .i64 e.c.i) := Ob.cell (e := e) HX.out (j := 0) rfl
    have k1 : W0.cell? ⟨w.heap.size, 1, none⟩ = some (.int .i64 e.c.k) := Ob.cell (e := e) HX.out (j := 1) rfl
    have k2 : W0.cell? ⟨w.heap.size, 2, none⟩ = some (.int .i64 e.c.s) := Ob.cell (e := e) HX.out (j := 2) rfl
    have k3 : W0.cell? ⟨w.heap.size, 3, none⟩ = some (.int .i64 e.c.t) := Ob.cell (e := e) HX.out (j := 3) rfl
    have k4 : W0.cell? ⟨w.heap.size, 4, none⟩ = some (.int .i64 e.c.d) := Ob.cell (e := e) HX.out (j := 4) rfl
    have k5 : W0.cell? ⟨w.heap.size, 5, none⟩ = some (.int .i64 e.c.p) := Ob.cell (e := e) HX.out (j := 5) rfl
    have k6 : W0.cell? ⟨w.heap.size, 6, none⟩ = some (.int .i64 e.c.q) := Ob.cell (e := e) HX.out (j := 6) rfl
    have k7 : W0.cell? ⟨w.heap.size, 7, none⟩ = some (.int .i64 e.pr) := Ob.cell (e := e) HX.out (j := 7) rfl
    have k8 : W0.cell? ⟨w.heap.size, 8, none⟩ = some (.int .i64 e.lo) := Ob.cell (e := e) HX.out (j := 8) rfl
    have k9 : W0.cell? ⟨w.heap.size, 9, none⟩ = some (.int .i64 e.hi) := Ob.cell (e := e) HX.out (j := 9) rfl
    have HK := hid (fun (W W' : World) (h : W0.heap.size ≤ W.heap.size ∧ Below W0.heap.size W0 W ∧ W.cell? ⟨w.heap.size, 0, none⟩ = some (.int .i64 e.c.i) ∧ W.cell? ⟨w.heap.size, 1, none⟩ = some (.int .i64 e.c.k) ∧ W.cell? ⟨w.heap.size, 2, none⟩ = some (.int .i64 e.c.s) ∧ W.cell? ⟨w.heap.size, 3, none⟩ = some (.int .i64 e.c.t) ∧ W.cell? ⟨w.heap.size, 4, none⟩ = some (.int .i64 e.c.d) ∧ W.cell? ⟨w.heap.size, 5, none⟩ = some (.int .i64 e.c.p) ∧ W.cell? ⟨w.heap.size, 6, none⟩ = some (.int .i64 e.c.q) ∧ W.cell? ⟨w.heap.size, 7, none⟩ = some (.int .i64 e.pr) ∧ W.cell? ⟨w.heap.size, 8, none⟩ = some (.int .i64 e.lo) ∧ W.cell? ⟨w.heap.size, 9, none⟩ = some (.int .i64 e.hi)) (hb : Below W0.heap.size W W') => (show W0.heap.size ≤ W'.heap.size ∧ Below W0.heap.size W0 W' ∧ W'.cell? ⟨w.heap.size, 0, none⟩ = some (.int .i64 e.c.i) ∧ W'.cell? ⟨w.heap.size, 1, none⟩ = some (.int .i64 e.c.k) ∧ W'.cell? ⟨w.heap.size, 2, none⟩ = some (.int .i64 e.c.s) ∧ W'.cell? ⟨w.heap.size, 3, none⟩ = some (.int .i64 e.c.t) ∧ W'.cell? ⟨w.heap.size, 4, none⟩ = some (.int .i64 e.c.d) ∧ W'.cell? ⟨w.heap.size, 5, none⟩ = some (.int .i64 e.c.p) ∧ W'.cell? ⟨w.heap.size, 6, none⟩ = some (.int .i64 e.c.q) ∧ W'.cell? ⟨w.heap.size, 7, none⟩ = some (.int .i64 e.pr) ∧ W'.cell? ⟨w.heap.size, 8, none⟩ = some (.int .i64 e.lo) ∧ W'.cell? ⟨w.heap.size, 9, none⟩ = some (.int .i64 e.hi) from (by
      have hX' : Ob W' w.heap.size 36 e := heapB HX.out (h.2.1.trans hb) (Array.getElem?_eq_some_iff.1 HX.out).1
      exact ⟨Nat.le_trans h.1 hb.size, h.2.1.trans hb, Ob.cell (e := e) hX' (j := 0) rfl, Ob.cell (e := e) hX' (j := 1) rfl, Ob.cell (e := e) hX' (j := 2) rfl, Ob.cell (e := e) hX' (j := 3) rfl, Ob.cell (e := e) hX' (j := 4) rfl, Ob.cell (e := e) hX' (j := 5) rfl, Ob.cell (e := e) hX' (j := 6) rfl, Ob.cell (e := e) hX' (j := 7) rfl, Ob.cell (e := e) hX' (j := 8) rfl, Ob.cell (e := e) hX' (j := 9) rfl⟩)))
    have HS1 := hid (show W0.heap.size ≤ W0.heap.size ∧ Below W0.heap.size W0 W0 ∧ W0.cell? ⟨w.heap.size, 0, none⟩ = some (.int .i64 e.c.i) ∧ W0.cell? ⟨w.heap.size, 1, none⟩ = some (.int .i64 e.c.k) ∧ W0.cell? ⟨w.heap.size, 2, none⟩ = some (.int .i64 e.c.s) ∧ W0.cell? ⟨w.heap.size, 3, none⟩ = some (.int .i64 e.c.t) ∧ W0.cell? ⟨w.heap.size, 4, none⟩ = some (.int .i64 e.c.d) ∧ W0.cell? ⟨w.heap.size, 5, none⟩ = some (.int .i64 e.c.p) ∧ W0.cell? ⟨w.heap.size, 6, none⟩ = some (.int .i64 e.c.q) ∧ W0.cell? ⟨w.heap.size, 7, none⟩ = some (.int .i64 e.pr) ∧ W0.cell? ⟨w.heap.size, 8, none⟩ = some (.int .i64 e.lo) ∧ W0.cell? ⟨w.heap.size, 9, none⟩ = some (.int .i64 e.hi) from ⟨Nat.le_refl _, Below.refl _ W0, k0, k1, k2, k3, k4, k5, k6, k7, k8, k9⟩)
    have HS0 := hid (show W0.heap.size ≤ W0.drew.heap.size ∧ Below W0.heap.size W0 W0.drew ∧ W0.drew.cell? ⟨w.heap.size, 0, none⟩ = some (.int .i64 e.c.i) ∧ W0.drew.cell? ⟨w.heap.size, 1, none⟩ = some (.int .i64 e.c.k) ∧ W0.drew.cell? ⟨w.heap.size, 2, none⟩ = some (.int .i64 e.c.s) ∧ W0.drew.cell? ⟨w.heap.size, 3, none⟩ = some (.int .i64 e.c.t) ∧ W0.drew.cell? ⟨w.heap.size, 4, none⟩ = some (.int .i64 e.c.d) ∧ W0.drew.cell? ⟨w.heap.size, 5, none⟩ = some (.int .i64 e.c.p) ∧ W0.drew.cell? ⟨w.heap.size, 6, none⟩ = some (.int .i64 e.c.q) ∧ W0.drew.cell? ⟨w.heap.size, 7, none⟩ = some (.int .i64 e.pr) ∧ W0.drew.cell? ⟨w.heap.size, 8, none⟩ = some (.int .i64 e.lo) ∧ W0.drew.cell? ⟨w.heap.size, 9, none⟩ = some (.int .i64 e.hi) from ⟨Nat.le_refl _, (Below.refl _ W0).drew, k0, k1, k2, k3, k4, k5, k6, k7, k8, k9⟩)
    go_region_held3 (fun W => W0.heap.size ≤ W.heap.size ∧ Below W0.heap.size W0 W ∧ W.cell? ⟨w.heap.size, 0, none⟩ = some (.int .i64 e.c.i) ∧ W.cell? ⟨w.heap.size, 1, none⟩ = some (.int .i64 e.c.k) ∧ W.cell? ⟨w.heap.size, 2, none⟩ = some (.int .i64 e.c.s) ∧ W.cell? ⟨w.heap.size, 3, none⟩ = some (.int .i64 e.c.t) ∧ W.cell? ⟨w.heap.size, 4, none⟩ = some (.int .i64 e.c.d) ∧ W.cell? ⟨w.heap.size, 5, none⟩ = some (.int .i64 e.c.p) ∧ W.cell? ⟨w.heap.size, 6, none⟩ = some (.int .i64 e.c.q) ∧ W.cell? ⟨w.heap.size, 7, none⟩ = some (.int .i64 e.pr) ∧ W.cell? ⟨w.heap.size, 8, none⟩ = some (.int .i64 e.lo) ∧ W.cell? ⟨w.heap.size, 9, none⟩ = some (.int .i64 e.hi)) (first | exact HS0.out | assumption | exact HK.out _ _ (by assumption) ((Below.refl _ _).alloc (by first | exact Nat.le_refl _ | assumption | omega) _) | exact HK.out _ _ HS1.out (belowDrew ((Below.refl _ W0).alloc (Nat.le_refl _) _)) | exact HK.out _ _ hS2 (belowDrew ((Below.refl _ w2).alloc hz2 _)) | exact HK.out _ _ hS2 (belowDrew (((Below.refl _ w2).alloc hz2 _).alloc (by simp; omega) _))) (first | (go_at_call 52; refine (rNums e.c ((W0.alloc (.cells #[.int .i64 e.pr, .int .i64 e.lo, .int .i64 e.hi] 3)).drew)).mono ?_; rintro x w2 ⟨g, rfl, hg1, hg2, hgc, hB⟩; have hb0 : Below W0.heap.size W0 w2 := (belowDrew ((Below.refl _ W0).alloc (Nat.le_refl _) _)).trans (hB.mono (by simp)); have hS2 := HK.out _ _ HS1.out hb0; have hz2 := hS2.1; have n0 : w2.cell? ⟨g, 0, none⟩ = some (.int .i64 e.c.i) := hgc 0 _ rfl; have n1 : w2.cell? ⟨g, 1, none⟩ = some (.int .i64 e.c.k) := hgc 1 _ rfl; have n2 : w2.cell? ⟨g, 2, none⟩ = some (.int .i64 e.c.s) := hgc 2 _ rfl; have n3 : w2.cell? ⟨g, 3, none⟩ = some (.int .i64 e.c.t) := hgc 3 _ rfl; have n4 : w2.cell? ⟨g, 4, none⟩ = some (.int .i64 e.c.d) := hgc 4 _ rfl; have n5 : w2.cell? ⟨g, 5, none⟩ = some (.int .i64 e.c.p) := hgc 5 _ rfl; have n6 : w2.cell? ⟨g, 6, none⟩ = some (.int .i64 e.c.q) := hgc 6 _ rfl; have m0 : w2.cell? ⟨W0.heap.size, 0, none⟩ = some (.int .i64 e.pr) := (hB.cell (p := ⟨W0.heap.size, 0, none⟩) (by simp)).trans (by simp [go_sem]); have m1 : w2.cell? ⟨W0.heap.size, 1, none⟩ = some (.int .i64 e.lo) := (hB.cell (p := ⟨W0.heap.size, 1, none⟩) (by simp)).trans (by simp [go_sem]); have m2 : w2.cell? ⟨W0.heap.size, 2, none⟩ = some (.int .i64 e.hi) := (hB.cell (p := ⟨W0.heap.size, 2, none⟩) (by simp)).trans (by simp [go_sem]); clear hgc hb0) | (go_at_call 52; refine (rNums e.c _).mono ?_; rintro x w2 ⟨g, rfl, hg1, hg2, hgc, hB⟩; have hS2 := HK.out _ _ (by assumption) (hB.mono (by first | exact Nat.le_refl _ | assumption | omega)); have hz2 := hS2.1; have n0 : w2.cell? ⟨g, 0, none⟩ = some (.int .i64 e.c.i) := hgc 0 _ rfl; have n1 : w2.cell? ⟨g, 1, none⟩ = some (.int .i64 e.c.k) := hgc 1 _ rfl; have n2 : w2.cell? ⟨g, 2, none⟩ = some (.int .i64 e.c.s) := hgc 2 _ rfl; have n3 : w2.cell? ⟨g, 3, none⟩ = some (.int .i64 e.c.t) := hgc 3 _ rfl; have n4 : w2.cell? ⟨g, 4, none⟩ = some (.int .i64 e.c.d) := hgc 4 _ rfl; have n5 : w2.cell? ⟨g, 5, none⟩ = some (.int .i64 e.c.p) := hgc 5 _ rfl; have n6 : w2.cell? ⟨g, 6, none⟩ = some (.int .i64 e.c.q) := hgc 6 _ rfl; clear hgc))
    all_goals (
      go_wp2_with fail
      go_meet
      refine ⟨_, _, rfl, hid ⟨heapB (B := W0.heap.size) HX.out ?_ (Array.getElem?_eq_some_iff.1 HX.out).1, HW.out.trans (Below.mono (B := W0.heap.size) ?_ HW.out.size), ten_sl (by first | rfl | simp)⟩⟩
      all_goals first | exact belowDrew (hS2.2.1.alloc hz2 _) | exact belowDrew ((hS2.2.1.alloc hz2 _).alloc (by simp; omega) _))
  case rest =>
    obtain ⟨G, C, rfl, hcc⟩ := hcut
    have HX : Hid (Ob wc w.heap.size 36 e) := hid hcc.out.1
    have HW : Hid (Below w.heap.size w wc) := hid hcc.out.2.1
    have HN := hid hcc.out.2.2
    have HLEN := hid (ent_len HE.out (by have := HL.out.1; omega) (by have := HL.out.2.1; omega) (by have := HL.out.2.2; omega)).2
    clear hcc
    go_wp2_with fail
    go_at_call 53
    refine (rPutN0 HN.out (by simp) (head_fine HE.out)).mono ?_
    rintro x w2 ⟨r2, rfl, ho, hB⟩
    rw [head_bytes] at ho
    have hwx : w.heap.size < wc.heap.size := (Array.getElem?_eq_some_iff.1 HX.out).1
    clear HN
    have GX : Hid (Ob w2 w.heap.size 36 e) := hid (heapB HX.out hB (Array.getElem?_eq_some_iff.1 HX.out).1)
    have GW := hid (HW.out.trans (hB.mono HW.out.size))
    clear hB HX HW 
    have HX := GX; clear GX
    have HW := GW; clear GW
    have HO : Hid (OwnB w2 (w.heap.size + 1) r2 (cmdsB [e.c] ++ putAll [e.pr, e.lo, e.hi])) := hid (own_monoB ho (by omega))
    obtain ⟨g2, c2, n2, rfl, hn⟩ := ho.asSlice
    clear ho hn hwx
    have k10 : w2.cell? ⟨w.heap.size, 10, none⟩ = some (.int .i64 e.ft) := Ob.cell (e := e) HX.out (j := 10) rfl
    have k11 : w2.cell? ⟨w.heap.size, 11, none⟩ = some (.slice e.fp.a e.fp.n e.fp.c) := Ob.cell (e := e) HX.out (j := 11) rfl
    go_wp2_with fail
    go_at_call 54
    refine (rPutV0 (HF.out.on HW.out) HL.out.1 HE.out.f).mono ?_
    rintro x w3 ⟨r3, rfl, ho, hB⟩
    have GX : Hid (Ob w3 w.heap.size 36 e) := hid (heapB HX.out hB (Array.getElem?_eq_some_iff.1 HX.out).1)
    have GW := hid (HW.out.trans (hB.mono HW.out.size))
    have GO := hid (own_below HO.out hB (fun k hk => (HO.out.lt k hk).2))
    clear hB HX HW HO k10 k11
    have HX := GX; clear GX
    have HW := GW; clear GW
    have HO := GO; clear GO
    have HN := hid ho.slb
    obtain ⟨g3, c3, n3, rfl, hn⟩ := ho.asSlice
    clear ho hn
    have tok : Hid (0 = 0) := hid rfl
    have hsz := HW.out.size
    have hsz1 : w.heap.size + 1 ≤ _ := (Array.getElem?_eq_some_iff.1 HX.out).1
    go_wp2_with (first
      | (clear tok; at_builtin; refine wpList_append_slb rfl _ _ rfl (w.heap.size + 1) _ (cmdsB [e.c] ++ putAll [e.pr, e.lo, e.hi]) rfl HO.out _ (valueBytes e.ft f) rfl HN.out (by have h := HLEN.out; unfold entB at h; simp only [List.length_append] at h ⊢; omega) hsz1 ?_; intro v3 x3 ho hg; have GX : Hid (Ob x3 w.heap.size 36 e) := hid (obKept HX.out hg (fun k hk => by have := (HO.out.lt k hk).1; omega)); have GW := hid (HW.out.grown hg hsz (fun k hk => by have := (HO.out.lt k hk).1; omega)); have GO := hid ho; obtain ⟨ga3, ca3, na3, rfl, hna⟩ := ho.asSlice; clear HX HW HO HN hsz hsz1 ho hg hna; have HX := GX; clear GX; have HW := GW; clear GW; have HO := GO; clear GO; have k12 : x3.cell? ⟨w.heap.size, 12, none⟩ = some (.int .i64 e.ab) := Ob.cell (e := e) HX.out (j := 12) rfl)
      | fail)
    go_at_call 55
    refine (rOne0 HE.out.ab _).mono ?_
    rintro x w4 ⟨r4, rfl, ho, hB⟩
    have GX : Hid (Ob w4 w.heap.size 36 e) := hid (heapB HX.out hB (Array.getElem?_eq_some_iff.1 HX.out).1)
    have GW := hid (HW.out.trans (hB.mono HW.out.size))
    have GO := hid (own_below HO.out hB (fun k hk => (HO.out.lt k hk).2))
    clear hB HX HW HO k12
    have HX := GX; clear GX
    have HW := GW; clear GW
    have HO := GO; clear GO
    have HN := hid ho.slb
    obtain ⟨g4, c4, n4, rfl, hn⟩ := ho.asSlice
    clear ho hn
    have tok : Hid (0 = 0) := hid rfl
    have hsz := HW.out.size
    have hsz1 : w.heap.size + 1 ≤ _ := (Array.getElem?_eq_some_iff.1 HX.out).1
    go_wp2_with (first
      | (clear tok; at_builtin; refine wpList_append_slb rfl _ _ rfl (w.heap.size + 1) _ (cmdsB [e.c] ++ putAll [e.pr, e.lo, e.hi] ++ valueBytes e.ft f) rfl HO.out _ (putAll [e.ab]) rfl HN.out (by have h := HLEN.out; unfold entB at h; simp only [List.length_append] at h ⊢; omega) hsz1 ?_; intro v4 x4 ho hg; have GX : Hid (Ob x4 w.heap.size 36 e) := hid (obKept HX.out hg (fun k hk => by have := (HO.out.lt k hk).1; omega)); have GW := hid (HW.out.grown hg hsz (fun k hk => by have := (HO.out.lt k hk).1; omega)); have GO := hid ho; obtain ⟨ga4, ca4, na4, rfl, hna⟩ := ho.asSlice; clear HX HW HO HN hsz hsz1 ho hg hna; have HX := GX; clear GX; have HW := GW; clear GW; have HO := GO; clear GO; have k13 : x4.cell? ⟨w.heap.size, 13, none⟩ = some (.int .i64 e.xt) := Ob.cell (e := e) HX.out (j := 13) rfl; have k14 : x4.cell? ⟨w.heap.size, 14, none⟩ = some (.slice e.xp.a e.xp.n e.xp.c) := Ob.cell (e := e) HX.out (j := 14) rfl)
      | fail)
    go_at_call 54
    refine (rPutV0 (HA.out.on HW.out) HL.out.2.1 HE.out.a).mono ?_
    rintro x w5 ⟨r5, rfl, ho, hB⟩
    have GX : Hid (Ob w5 w.heap.size 36 e) := hid (heapB HX.out hB (Array.getElem?_eq_some_iff.1 HX.out).1)
    have GW := hid (HW.out.trans (hB.mono HW.out.size))
    have GO := hid (own_below HO.out hB (fun k hk => (HO.out.lt k hk).2))
    clear hB HX HW HO k13 k14
    have HX := GX; clear GX
    have HW := GW; clear GW
    have HO := GO; clear GO
    have HN := hid ho.slb
    obtain ⟨g5, c5, n5, rfl, hn⟩ := ho.asSlice
    clear ho hn
    have tok : Hid (0 = 0) := hid rfl
    have hsz := HW.out.size
    have hsz1 : w.heap.size + 1 ≤ _ := (Array.getElem?_eq_some_iff.1 HX.out).1
    go_wp2_with (first
      | (clear tok; at_builtin; refine wpList_append_slb rfl _ _ rfl (w.heap.size + 1) _ (cmdsB [e.c] ++ putAll [e.pr, e.lo, e.hi] ++ valueBytes e.ft f ++ putAll [e.ab]) rfl HO.out _ (valueBytes e.xt a) rfl HN.out (by have h := HLEN.out; unfold entB at h; simp only [List.length_append] at h ⊢; omega) hsz1 ?_; intro v5 x5 ho hg; have GX : Hid (Ob x5 w.heap.size 36 e) := hid (obKept HX.out hg (fun k hk => by have := (HO.out.lt k hk).1; omega)); have GW := hid (HW.out.grown hg hsz (fun k hk => by have := (HO.out.lt k hk).1; omega)); have GO := hid ho; obtain ⟨ga5, ca5, na5, rfl, hna⟩ := ho.asSlice; clear HX HW HO HN hsz hsz1 ho hg hna; have HX := GX; clear GX; have HW := GW; clear GW; have HO := GO; clear GO; have k15 : x5.cell? ⟨w.heap.size, 15, none⟩ = some (.bool e.fr) := Ob.cell (e := e) HX.out (j := 15) rfl; have k16 : x5.cell? ⟨w.heap.size, 16, none⟩ = some (.bool e.dn) := Ob.cell (e := e) HX.out (j := 16) rfl)
      | fail)
    have hqw : w.heap.size < x5.heap.size := (Array.getElem?_eq_some_iff.1 HX.out).1
    have HS0 := hid (show EncS w x5 e.fr e.dn x5.drew from ⟨Nat.le_refl _, (Below.refl _ x5).drew, k15, k16⟩)
    have HS1 := hid (show EncS w x5 e.fr e.dn x5 from ⟨Nat.le_refl _, Below.refl _ x5, k15, k16⟩)
    have HK := hid (fun (W W' : World) (h : EncS w x5 e.fr e.dn W) (hb : Below x5.heap.size W W') => h.on hqw hb)
    go_region_held3 (fun W => x5.heap.size ≤ W.heap.size ∧ Below x5.heap.size x5 W ∧ W.cell? ⟨w.heap.size, 15, none⟩ = some (.bool e.fr) ∧ W.cell? ⟨w.heap.size, 16, none⟩ = some (.bool e.dn)) (first | exact HS0.out | assumption | exact HK.out _ _ (by assumption) ((Below.refl _ _).alloc (show EncS w x5 e.fr e.dn _ by assumption).1 _)) (first | (go_at_call 56; refine (rFlag _ _).mono ?_; rintro x w' ⟨rfl, rfl⟩) | (go_at_call 53; refine (rPutN0 (w := (x5.alloc (.cells #[.int .i64 (markI e.fr), .int .i64 (markI e.dn)] 3)).drew) (SlN.drewL (SlN.lit2 rfl)) (by simp) (marks_two e.fr e.dn)).mono ?_; rintro x w6 ⟨r6, rfl, ho, hB0⟩; have hB : Below x5.heap.size x5 w6 := (belowDrew ((Below.refl _ x5).alloc (Nat.le_refl _) _)).trans (hB0.mono (by simp)); have hS6 : EncS w x5 e.fr e.dn w6 := HS1.out.on hqw hB))
    clear HK HS0 HS1 hS6 hqw
    have GX : Hid (Ob w6 w.heap.size 36 e) := hid (heapB HX.out hB (Array.getElem?_eq_some_iff.1 HX.out).1)
    have GW := hid (HW.out.trans (hB.mono HW.out.size))
    have GO := hid (own_below HO.out hB (fun k hk => (HO.out.lt k hk).2))
    clear hB HX HW HO k15 k16
    have HX := GX; clear GX
    have HW := GW; clear GW
    have HO := GO; clear GO
    have HN := hid ho.slb
    obtain ⟨g6, c6, n6, rfl, hn⟩ := ho.asSlice
    clear ho hn hB0
    have tok : Hid (0 = 0) := hid rfl
    have hsz := HW.out.size
    have hsz1 : w.heap.size + 1 ≤ _ := (Array.getElem?_eq_some_iff.1 HX.out).1
    go_wp2_with (first
      | (clear tok; at_builtin; refine wpList_append_slb rfl _ _ rfl (w.heap.size + 1) _ (cmdsB [e.c] ++ putAll [e.pr, e.lo, e.hi] ++ valueBytes e.ft f ++ putAll [e.ab] ++ valueBytes e.xt a) rfl HO.out _ (putAll [markI e.fr, markI e.dn]) rfl HN.out (by have h := HLEN.out; unfold entB at h; simp only [List.length_append] at h ⊢; omega) hsz1 ?_; intro v6 x6 ho hg; have GX : Hid (Ob x6 w.heap.size 36 e) := hid (obKept HX.out hg (fun k hk => by have := (HO.out.lt k hk).1; omega)); have GW := hid (HW.out.grown hg hsz (fun k hk => by have := (HO.out.lt k hk).1; omega)); have GO := hid ho; obtain ⟨ga6, ca6, na6, rfl, hna⟩ := ho.asSlice; clear HX HW HO HN hsz hsz1 ho hg hna; have HX := GX; clear GX; have HW := GW; clear GW; have HO := GO; clear GO; have k17 : x6.cell? ⟨w.heap.size, 17, none⟩ = some (.int .i64 e.vt) := Ob.cell (e := e) HX.out (j := 17) rfl; have k18 : x6.cell? ⟨w.heap.size, 18, none⟩ = some (.slice e.vp.a e.vp.n e.vp.c) := Ob.cell (e := e) HX.out (j := 18) rfl)
      | fail)
    go_at_call 54
    refine (rPutV0 (HV.out.on HW.out) HL.out.2.2 HE.out.v).mono ?_
    rintro x w7 ⟨r7, rfl, ho, hB⟩
    have GX : Hid (Ob w7 w.heap.size 36 e) := hid (heapB HX.out hB (Array.getElem?_eq_some_iff.1 HX.out).1)
    have GW := hid (HW.out.trans (hB.mono HW.out.size))
    have GO := hid (own_below HO.out hB (fun k hk => (HO.out.lt k hk).2))
    clear hB HX HW HO k17 k18
    have HX := GX; clear GX
    have HW := GW; clear GW
    have HO := GO; clear GO
    have HN := hid ho.slb
    obtain ⟨g7, c7, n7, rfl, hn⟩ := ho.asSlice
    clear ho hn
    have tok : Hid (0 = 0) := hid rfl
    have hsz := HW.out.size
    have hsz1 : w.heap.size + 1 ≤ _ := (Array.getElem?_eq_some_iff.1 HX.out).1
    go_wp2_with (first
      | (clear tok; at_builtin; refine wpList_append_slb rfl _ _ rfl (w.heap.size + 1) _ (cmdsB [e.c] ++ putAll [e.pr, e.lo, e.hi] ++ valueBytes e.ft f ++ putAll [e.ab] ++ valueBytes e.xt a ++ putAll [markI e.fr, markI e.dn]) rfl HO.out _ (valueBytes e.vt v) rfl HN.out (by have h := HLEN.out; unfold entB at h; simp only [List.length_append] at h ⊢; omega) hsz1 ?_; intro v7 x7 ho hg; have GX : Hid (Ob x7 w.heap.size 36 e) := hid (obKept HX.out hg (fun k hk => by have := (HO.out.lt k hk).1; omega)); have GW := hid (HW.out.grown hg hsz (fun k hk => by have := (HO.out.lt k hk).1; omega)); have GO := hid ho; obtain ⟨ga7, ca7, na7, rfl, hna⟩ := ho.asSlice; clear HX HW HO HN hsz hsz1 ho hg hna; have HX := GX; clear GX; have HW := GW; clear GW; have HO := GO; clear GO)
      | fail)
    have HFIN : Hid (OwnB x7 w.heap.size (.slice ga7 na7 ca7) (entB e f a v)) := hid (by
      have h := own_monoB (B' := w.heap.size) HO.out (by omega)
      have he : cmdsB [e.c] ++ putAll [e.pr, e.lo, e.hi] ++ valueBytes e.ft f ++ putAll [e.ab] ++ valueBytes e.xt a ++ putAll [markI e.fr, markI e.dn] ++ valueBytes e.vt v = entB e f a v := by unfold entB; simp only [List.append_assoc]
      rw [he] at h
      exact h)
    go_ret
    exact ⟨_, rfl, HFIN.out, HW.out⟩
end Go.Proofs.Ytmndjdaiailgmaa
