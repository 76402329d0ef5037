/- The document's reader: Value. -/
import Derived.Test.YtioajkblgcpfaaaRCmds
import Derived.Test.YtioajkblgcpfaaaValS
import Derived.Test.YtioajkblgcpfaaaRise
namespace Go.Proofs.Ytioajkblgcpfaaa
set_option linter.unusedVariables false
open Go.RowKit
open Go.Lib (hid)

set_option maxHeartbeats 1600000 in
set_option maxRecDepth 100000 in
theorem rValue {F : Nat → Prop} {p : Nat} {s : St} {w : World} (h : Rd 40 F w p s) (hF : ∀ k, F k → k < w.heap.size) : Calls Try.prog 23 #[.pointer (some ⟨p, 0, none⟩)] w fun x w' => ∃ r, x = .returned (.agg #[.int .i64 (valueS s).1.1, r]) ∧ Own w' w.heap.size r (valueS s).1.2 ∧ Rd 40 F w' p (valueS s).2 ∧ w.grownBy w' (some p) := by
  have hp := h.lt
  have HX := hid hF
  have hN := rNum (h.alloc zeroV)
  clear h hF
  obtain ⟨n, hn⟩ : ∃ n, n = (numS s).1 := ⟨_, rfl⟩
  rw [← hn] at hN
  have HN := hid hn
  clear hn
  obtain ⟨cs, hcs⟩ : ∃ cs, cs = (cmdsS (numS s).2).1 := ⟨_, rfl⟩
  have hln : cs.length ≤ 1024 := by rw [hcs]; exact cmdsS_short
  have HCS := hid hcs
  clear hcs
  go_enter Try.func23, Try.ntmps23
  by_cases he : (cmdsS (numS s).2).2.2 = 0
  · rcases hset : setB (cmdsS (numS s).2).1 with _ | _
    · have HE := hid (valueS_no he hset)
      rw [← HCS.out] at hset
      go_wp2_with (first
        | (go_at_call 15; (
            refine hN.mono ?_
            rintro e w1 ⟨rfl, hR, hg⟩
            have hs1 : w.heap.size < w1.heap.size := by have := hg.size; simp at this; omega
            have hC := rCmds hR (fun j hj => Nat.lt_of_lt_of_le (HX.out j hj) (by omega))
            rw [← HCS.out] at hC
            have HC := hid hC
            have HG := hid hg
            clear hR hg hC))
        | (go_at_call 20; (
            refine HC.out.mono ?_
            rintro e w2 ⟨r, rfl, hown, hR, hg⟩
            have hR2 := rSetRight hown.sl hln
            have H2 := hid (And.intro hown (And.intro hR (grownTrans HG.out hg)))
            have hs2 := hg.size
            obtain ⟨gr, capr, nr, rfl, hnr⟩ := hown.asSlice
            clear hnr hown hR hg
            rw [hset] at hR2))
        | (go_at_call 33; (
            refine hR2.mono ?_
            rintro e w3 ⟨rfl, hB⟩
            have hs3 := hB.size
            have hRd := H2.out.2.1.on hB
            have hG : (w.alloc zeroV).grownBy w3 (some p) := grownUnder H2.out.2.2 (hB.mono (by simp; omega))
            have hz : w3.heap[w.heap.size]? = some zeroV := heapB (heapOf (heap_alloc_new w zeroV) H2.out.2.2 (by omega)) hB (by omega)
            have HO := hid (own_sl_below H2.out.1 hB)
            clear hB
            obtain ⟨v3, _, _, _, c1, _, _, _, _⟩ := hRd.cells
            rw [he] at c1
            have HFi := hid (rFail hRd 2)
            have HZ := hid (And.intro hz hG)
            clear hz hG hRd))
        | (go_at_call 36; (
            refine HFi.out.mono ?_
            rintro e w4 ⟨rfl, hRd, hg4⟩
            obtain ⟨v4, _, _, _, c4, _, _, _, _⟩ := hRd.cells
            dsimp only at c4
            have hz := heapOf HZ.out.1 hg4 (by omega)
            have hG := grownTrans HZ.out.2 hg4
            have r0 : w4.cell? ⟨w.heap.size, 0, none⟩ = some (.int .i64 0) := (cellAt' hz 0).trans rfl
            have r1 : w4.cell? ⟨w.heap.size, 1, none⟩ = some (.slice none 0 0) := (cellAt' hz 1).trans rfl
            have fr : ∀ f, w4.frozen? ⟨w.heap.size, f, none⟩ = false := fun f => frozenAt hz f
            have hsW : w.heap.size < w4.heap.size := (Array.getElem?_eq_some_iff.1 hz).1
            have HD := hid (And.intro hRd hG)
            clear hz hRd hG
            clear hg4)))
      refine bodyPost_ret (v := .agg #[.int .i64 0, (.slice none 0 0)]) (by simp [results, Try.results23, go_sem, r0, r1]) rfl ⟨(.slice none 0 0), ?_, ?_, ?_, ?_⟩
      · rw [HE.out]; rfl
      · rw [HE.out]
        exact Own.nil _ _
      · rw [HE.out]
        exact HD.out.1.keptN (grownSet2q _ _ _ _) fun j hj => ⟨by cases hj; omega, fun hh => by cases hj; have := HX.out _ hh; omega⟩
      · exact grownThen (grownTrans (World.grownBy_alloc w zeroV _) HD.out.2) (grownSet2q _ _ _ _) fun j hj => by cases hj; exact Nat.le_refl _
    · have HE := hid (valueS_yes he hset)
      rw [← HCS.out] at hset
      go_wp2_with (first
        | (go_at_call 15; (
            refine hN.mono ?_
            rintro e w1 ⟨rfl, hR, hg⟩
            have hs1 : w.heap.size < w1.heap.size := by have := hg.size; simp at this; omega
            have hC := rCmds hR (fun j hj => Nat.lt_of_lt_of_le (HX.out j hj) (by omega))
            rw [← HCS.out] at hC
            have HC := hid hC
            have HG := hid hg
            clear hR hg hC))
        | (go_at_call 20; (
            refine HC.out.mono ?_
            rintro e w2 ⟨r, rfl, hown, hR, hg⟩
            have hR2 := rSetRight hown.sl hln
            have H2 := hid (And.intro hown (And.intro hR (grownTrans HG.out hg)))
            have hs2 := hg.size
            obtain ⟨gr, capr, nr, rfl, hnr⟩ := hown.asSlice
            clear hnr hown hR hg
            rw [hset] at hR2))
        | (go_at_call 33; (
            refine hR2.mono ?_
            rintro e w3 ⟨rfl, hB⟩
            have hs3 := hB.size
            have hRd := H2.out.2.1.on hB
            have hG : (w.alloc zeroV).grownBy w3 (some p) := grownUnder H2.out.2.2 (hB.mono (by simp; omega))
            have hz : w3.heap[w.heap.size]? = some zeroV := heapB (heapOf (heap_alloc_new w zeroV) H2.out.2.2 (by omega)) hB (by omega)
            have HO := hid (own_sl_below H2.out.1 hB)
            clear hB
            obtain ⟨v3, _, _, _, c1, _, _, _, _⟩ := hRd.cells
            rw [he] at c1
            have r0 : w3.cell? ⟨w.heap.size, 0, none⟩ = some (.int .i64 0) := (cellAt' hz 0).trans rfl
            have r1 : w3.cell? ⟨w.heap.size, 1, none⟩ = some (.slice none 0 0) := (cellAt' hz 1).trans rfl
            have fr : ∀ f, w3.frozen? ⟨w.heap.size, f, none⟩ = false := fun f => frozenAt hz f
            have hsW : w.heap.size < w3.heap.size := (Array.getElem?_eq_some_iff.1 hz).1
            have HD := hid (And.intro hRd hG)
            clear hz hRd hG)))
      refine bodyPost_ret (v := .agg #[.int .i64 (n : Nat), (.slice gr nr capr)]) (by simp [results, Try.results23, go_sem, r0, r1]) rfl ⟨(.slice gr nr capr), ?_, ?_, ?_, ?_⟩
      · rw [HE.out]; exact congrArg _ (by rw [HN.out])
      · rw [HE.out]
        rw [← HCS.out]; exact own_monoB (Own.kept' HO.out (grownSet2q _ _ _ _) (by omega)) (by omega)
      · rw [HE.out]
        exact HD.out.1.keptN (grownSet2q _ _ _ _) fun j hj => ⟨by cases hj; omega, fun hh => by cases hj; have := HX.out _ hh; omega⟩
      · exact grownThen (grownTrans (World.grownBy_alloc w zeroV _) HD.out.2) (grownSet2q _ _ _ _) fun j hj => by cases hj; exact Nat.le_refl _
  · have HE := hid (valueS_err he)
    obtain ⟨ee, hee⟩ : ∃ ee, ee = (cmdsS (numS s).2).2.2 := ⟨_, rfl⟩
    rw [← hee] at he
    go_wp2_with (first
      | (go_at_call 15; (
          refine hN.mono ?_
          rintro e w1 ⟨rfl, hR, hg⟩
          have hs1 : w.heap.size < w1.heap.size := by have := hg.size; simp at this; omega
          have hC := rCmds hR (fun j hj => Nat.lt_of_lt_of_le (HX.out j hj) (by omega))
          rw [← HCS.out] at hC
          have HC := hid hC
          have HG := hid hg
          clear hR hg hC))
      | (go_at_call 20; (
          refine HC.out.mono ?_
          rintro e w2 ⟨r, rfl, hown, hR, hg⟩
          have hR2 := rSetRight hown.sl hln
          have H2 := hid (And.intro hown (And.intro hR (grownTrans HG.out hg)))
          have hs2 := hg.size
          obtain ⟨gr, capr, nr, rfl, hnr⟩ := hown.asSlice
          clear hnr hown hR hg
          ))
      | (go_at_call 33; (
          refine hR2.mono ?_
          rintro e w3 ⟨rfl, hB⟩
          have hs3 := hB.size
          have hRd := H2.out.2.1.on hB
          have hG : (w.alloc zeroV).grownBy w3 (some p) := grownUnder H2.out.2.2 (hB.mono (by simp; omega))
          have hz : w3.heap[w.heap.size]? = some zeroV := heapB (heapOf (heap_alloc_new w zeroV) H2.out.2.2 (by omega)) hB (by omega)
          have HO := hid (own_sl_below H2.out.1 hB)
          clear hB
          obtain ⟨v3, _, _, _, c1, _, _, _, _⟩ := hRd.cells
          rw [← hee] at c1
          clear hee
          have r0 : w3.cell? ⟨w.heap.size, 0, none⟩ = some (.int .i64 0) := (cellAt' hz 0).trans rfl
          have r1 : w3.cell? ⟨w.heap.size, 1, none⟩ = some (.slice none 0 0) := (cellAt' hz 1).trans rfl
          have fr : ∀ f, w3.frozen? ⟨w.heap.size, f, none⟩ = false := fun f => frozenAt hz f
          have hsW : w.heap.size < w3.heap.size := (Array.getElem?_eq_some_iff.1 hz).1
          have HD := hid (And.intro hRd hG)
          clear hz hRd hG)))
    refine bodyPost_ret (v := .agg #[.int .i64 0, (.slice none 0 0)]) (by simp [results, Try.results23, go_sem, r0, r1]) rfl ⟨(.slice none 0 0), ?_, ?_, ?_, ?_⟩
    · rw [HE.out]; rfl
    · rw [HE.out]
      exact Own.nil _ _
    · rw [HE.out]
      exact HD.out.1.keptN (grownSet2q _ _ _ _) fun j hj => ⟨by cases hj; omega, fun hh => by cases hj; have := HX.out _ hh; omega⟩
    · exact grownThen (grownTrans (World.grownBy_alloc w zeroV _) HD.out.2) (grownSet2q _ _ _ _) fun j hj => by cases hj; exact Nat.le_refl _
end Go.Proofs.Ytioajkblgcpfaaa
