import Derived.Test.YtpkkmfppdhjpkaaGreatCCmdM
import Derived.Test.YtpkkmfppdhjpkaaGreatGa08
import Derived.Deep.LoopGhost
import Derived.Test.YtpkkmfppdhjpkaaGreatGa06
import Derived.Test.YtpkkmfppdhjpkaaGreatGa07
import Derived.Deep.RegionHeld3
/- The program's reader: Cmds. -/

namespace Go.Proofs.YtpkkmfppdhjpkaaGreat
set_option linter.unusedVariables false
open Go.RowKit
open Go.Lib (hid)

theorem cCmd' {F : Nat → Prop} {p : Nat} {s : St} {w : World} (h : Rd 115 F w p s) (hF : ∀ k, F k → k < w.heap.size) : Calls Tryz.prog 67 #[ptr p] w fun x w' => x = .returned (.agg #[.int .i64 (cmdS s).1.i, .int .i64 (cmdS s).1.k, .int .i64 (cmdS s).1.s, .int .i64 (cmdS s).1.t, .int .i64 (cmdS s).1.d, .int .i64 (cmdS s).1.p, .int .i64 (cmdS s).1.q]) ∧ Rd 115 F w' p (cmdS s).2 ∧ w.grownBy w' (some p) := cCmd h hF

theorem cFine_ok' {F : Nat → Prop} {p : Nat} {s : St} {w : World} (h : Rd 115 F w p s) (he : s.2 = 0) (r : Bool) (hr : r = true) : Calls Tryz.prog 86 #[ptr p, .bool r] w fun x w' => x = .returned (.bool true) ∧ w = w' := by
  subst hr; exact cFine_ok h he
theorem cFine_no' {F : Nat → Prop} {p : Nat} {s : St} {w : World} (h : Rd 115 F w p s) (he : s.2 = 0) (r : Bool) (hr : r = false) : Calls Tryz.prog 86 #[ptr p, .bool r] w fun x w' => x = .returned (.bool false) ∧ Rd 115 F w' p ([], 2) ∧ w.grownBy w' (some p) := by
  subst hr; exact cFine_no h he

set_option maxHeartbeats 1600000 in
set_option maxRecDepth 100000 in
theorem cCmds {F : Nat → Prop} {p : Nat} {s : St} {w : World} (h : Rd 115 F w p s) (hF : ∀ k, F k → k < w.heap.size) : Calls Tryz.prog 87 #[ptr p] w fun x w' => ∃ r, x = .returned r ∧ Own w' w.heap.size r (cmdsS s).1 ∧ Rd 115 F w' p (cmdsS s).2 ∧ w.grownBy w' (some p) := by
  have hp := h.lt
  have HX := hid hF
  have hN := cNum h
  clear h hF
  obtain ⟨i0, hi, hz0, hz1, hz2⟩ := info_parts Tryz.infoC
  by_cases he : (numS s).2.2 = 0
  · obtain ⟨m, hm⟩ : ∃ m, m = (numS s).1 := ⟨_, rfl⟩
    rw [← hm] at hN
    by_cases hl : 1024 < m
    · have HE := hid (cmdsS_many (s := s) (by omega))
      have hl' : ¬ (m : Int) ≤ 1024 := by omega
      clear hm
      go_enter Tryz.func87, Tryz.ntmps87
      go_wp2_with (first | (go_at_call 45; refine hN.mono ?_; rintro e w1 ⟨rfl, hR, hg⟩; have HFi := hid (fun r hr => cFine_no' hR he r hr); have HG := hid hg; clear hR hg he) | (go_at_call 86; refine (HFi.out _ (by first | rfl | (simp; omega))).mono ?_; rintro e w2 ⟨rfl, hR, hg⟩))
      go_ret
      exact ⟨_, rfl, by rw [HE.out]; exact Own.nil _ _, by rw [HE.out]; exact hR, grownTrans HG.out hg⟩
    · have hl' : (m : Int) ≤ 1024 := by omega
      have HM := hid hm
      clear hm
      go_enter Tryz.func87, Tryz.ntmps87
      go_wp2_with (first | (go_at_call 45; refine hN.mono ?_; rintro e w1 ⟨rfl, hR, hg⟩; have HFi := hid (fun r hr => cFine_ok' hR he r hr); have HG := hid (And.intro hg hR); clear hR hg) | (go_at_call 86; refine (HFi.out _ (by first | rfl | (simp; omega))).mono ?_; rintro e w2 ⟨rfl, rfl⟩))
      go_loopg [4, 14] m (fun g u i wr => ∃ (k : Nat) (out : List C7) (st : St), k ≤ m ∧ g = m - k ∧ i = .int .i64 k ∧ out.length = k ∧ Own wr w.heap.size u out ∧ Hid (cmdsGo m [] (numS s).2 = cmdsGo (m - k) out st ∧ st.2 = 0 ∧ Rd 115 F wr p st ∧ w.grownBy wr (some p)))
      case atStart => exact ⟨0, [], (numS s).2, Nat.zero_le _, rfl, rfl, rfl, Own.nil _ _, hid ⟨rfl, he, HG.out.2, HG.out.1⟩⟩
      case round =>
        clear he HFi HG hN
        obtain ⟨k, out, st, hk, rfl, rfl, hout, hown, hst⟩ := hrel
        have hsz := hst.out.2.2.2.size
        by_cases hlt : k < m
        · have hC := cCmd' hst.out.2.2.1 (fun j hj => Nat.lt_of_lt_of_le (HX.out j hj) hsz)
          obtain ⟨c, hc⟩ : ∃ c, c = (cmdS st).1 := ⟨_, rfl⟩
          rw [← hc] at hC
          have HN := hid (show cmdsGo m [] (numS s).2 = cmdsGo (m - (k + 1)) (out ++ [c]) (cmdS st).2 by rw [hst.out.1, cmdsGo_next hlt hst.out.2.1, hc])
          have HO := hid hown
          have HL := hid hout
          clear hc hout
          by_cases he : (cmdS st).2.2 = 0
          · go_wp2_with (first | (go_at_call 67; refine hC.mono ?_; rintro e w3 ⟨rfl, hR, hg⟩; have hs3 := hg.size; have HE := hid (fun (W : World) (hB : Below w3.heap.size w3 W) => cErr (hR.on hB)); have H3 := hid (And.intro hR (And.intro hg (HO.out.kept' hg hp))); clear hR hg hown) | (go_at_call 46; refine (HE.out _ ((Below.refl _ w3).alloc (Nat.le_refl _) _)).mono ?_; rintro e w4 ⟨rfl, rfl⟩) | (at_builtin; refine wpList_append_own _ rfl _ _ 40 rfl w.heap.size 39 i0 _ 7 56 Tryz.underlying40 hi hz0 hz1 hz2 rfl (by decide) _ _ _ rfl ((H3.out.2.2.alloc _).alloc _) ⟨w3.heap.size + 1, 0, none⟩ 1 1 c.cells rfl rfl ?c1 ?c2 ?c3 ?c4 ?c5 ?_))
            case c1 => exact new_cell (by simp)
            case c2 => exact cells_one c
            case c3 => have := HL.out; unfold maxLen; omega
            case c4 => have := HL.out; omega
            case c5 => first | omega | (simp; omega)
            intro v' w5 hown' hgrow _
            have hO : Own w5 w.heap.size v' (out ++ [c]) := own_more hown' (by rfl)
            have hlt' := HO.out.lt
            have hR5 := ((H3.out.1.alloc (.cells c.cells.toArray 39)).alloc (.cells c.cells.toArray 39)).keptN hgrow fun j hj => ⟨by have := (hlt' j hj).1; omega, fun hh => by have := HX.out j hh; have := (hlt' j hj).1; omega⟩
            have hg5 := grownThen (grownAlloc (grownAlloc (grownTrans hst.out.2.2.2 H3.out.2.1) (.cells c.cells.toArray 39)) (.cells c.cells.toArray 39)) hgrow fun j hj => (hlt' j hj).1
            have HR := hid (And.intro hO (And.intro hR5 hg5))
            clear hown' hgrow hO hR5 hg5 hlt'
            go_wp2
            go_roundg (m - (k + 1))
            case measure => omega
            case rel => exact ⟨k + 1, _, _, by omega, rfl, by go_num, by rw [List.length_append, HL.out]; rfl, HR.out.1, hid ⟨HN.out, he, HR.out.2.1, HR.out.2.2⟩⟩
          · have HF := hid (cmdsS_fail (s := s) (by rw [← HM.out]; omega) (by rw [← HM.out, HN.out, cmdsGo_stop he]) he)
            obtain ⟨ee, hee⟩ : ∃ ee, ee = (cmdS st).2.2 := ⟨_, rfl⟩
            have HEE := hid hee
            rw [← hee] at he
            go_wp2_with (first | (go_at_call 67; refine hC.mono ?_; rintro e w3 ⟨rfl, hR, hg⟩; have hs3 := hg.size; have HE := hid (fun (W : World) (hB : Below w3.heap.size w3 W) => cErr (hR.on hB)); rw [← hee] at HE; have H3 := hid (And.intro hR hg); clear hR hg hown hee) | (go_at_call 46; refine (HE.out _ ((Below.refl _ w3).alloc (Nat.le_refl _) _)).mono ?_; rintro e w4 ⟨rfl, rfl⟩))
            go_ret
            exact ⟨_, rfl, by rw [HF.out]; exact Own.nil _ _, by rw [HF.out]; exact H3.out.1.alloc _, grownAlloc (grownTrans hst.out.2.2.2 H3.out.2) _⟩
        · obtain rfl : k = m := by omega
          have HF := hid (cmdsS_fin (s := s) (by rw [← HM.out]; omega) (by rw [← HM.out, hst.out.1, Nat.sub_self]; rfl) hst.out.2.1)
          have HO := hid hown
          clear hown
          go_wp2
          go_ret
          exact ⟨_, rfl, by rw [HF.out]; exact HO.out, by rw [HF.out]; exact hst.out.2.2.1, hst.out.2.2.2⟩
  · have HE := hid (cmdsS_err he)
    rw [numS_bad he] at hN
    go_enter Tryz.func87, Tryz.ntmps87
    go_wp2_with (first | (go_at_call 45; refine hN.mono ?_; rintro e w1 ⟨rfl, hR, hg⟩; have HFi := hid (fun r => cFine_bad hR he r); have HG := hid (And.intro hg hR); clear hR hg he) | (go_at_call 86; refine (HFi.out _).mono ?_; rintro e w2 ⟨rfl, rfl⟩))
    go_ret
    exact ⟨_, rfl, by rw [HE.out]; exact Own.nil _ _, by rw [HE.out]; exact HG.out.2, HG.out.1⟩
end Go.Proofs.YtpkkmfppdhjpkaaGreat
/- The program's reader: Value. -/


namespace Go.Proofs.YtpkkmfppdhjpkaaGreat
set_option linter.unusedVariables false
open Go.RowKit
open Go.Lib (hid)

set_option maxHeartbeats 1600000 in
set_option maxRecDepth 100000 in
theorem cValue {F : Nat → Prop} {p : Nat} {s : St} {w : World} (h : Rd 115 F w p s) (hF : ∀ k, F k → k < w.heap.size) : Calls Tryz.prog 68 #[.pointer (some ⟨p, 0, none⟩)] w fun x w' => ∃ r, x = .returned (.agg #[.int .i64 (valueS s).1.1, r]) ∧ Own w' w.heap.size r (valueS s).1.2 ∧ Rd 115 F w' p (valueS s).2 ∧ w.grownBy w' (some p) := by
  have hp := h.lt
  have HX := hid hF
  have hN := cNum (h.alloc zeroV)
  clear h hF
  obtain ⟨n, hn⟩ : ∃ n, n = (numS s).1 := ⟨_, rfl⟩
  rw [← hn] at hN
  have HN := hid hn
  clear hn
  obtain ⟨cs, hcs⟩ : ∃ cs, cs = (cmdsS (numS s).2).1 := ⟨_, rfl⟩
  have hln : cs.length ≤ 1024 := by rw [hcs]; exact cmdsS_short
  have HCS := hid hcs
  clear hcs
  go_enter Tryz.func68, Tryz.ntmps68
  by_cases he : (cmdsS (numS s).2).2.2 = 0
  · rcases hset : setB (cmdsS (numS s).2).1 with _ | _
    · have HE := hid (valueS_no he hset)
      rw [← HCS.out] at hset
      go_wp2_with (first
        | (go_at_call 45; (
            refine hN.mono ?_
            rintro e w1 ⟨rfl, hR, hg⟩
            have hs1 : w.heap.size < w1.heap.size := by have := hg.size; simp at this; omega
            have hC := cCmds hR (fun j hj => Nat.lt_of_lt_of_le (HX.out j hj) (by omega))
            rw [← HCS.out] at hC
            have HC := hid hC
            have HG := hid hg
            clear hR hg hC))
        | (go_at_call 87; (
            refine HC.out.mono ?_
            rintro e w2 ⟨r, rfl, hown, hR, hg⟩
            have hR2 := cSetRight hown.sl hln
            have H2 := hid (And.intro hown (And.intro hR (grownTrans HG.out hg)))
            have hs2 := hg.size
            obtain ⟨gr, capr, nr, rfl, hnr⟩ := hown.asSlice
            clear hnr hown hR hg
            rw [hset] at hR2))
        | (go_at_call 88; (
            refine hR2.mono ?_
            rintro e w3 ⟨rfl, hB⟩
            have hs3 := hB.size
            have hRd := H2.out.2.1.on hB
            have hG : (w.alloc zeroV).grownBy w3 (some p) := grownUnder H2.out.2.2 (hB.mono (by simp; omega))
            have hz : w3.heap[w.heap.size]? = some zeroV := heapB (heapOf (heap_alloc_new w zeroV) H2.out.2.2 (by omega)) hB (by omega)
            have HO := hid (own_sl_below H2.out.1 hB)
            clear hB
            have HFi := hid (fun r hr => cFine_no' hRd he r hr)
            have HZ := hid (And.intro hz hG)
            clear hz hG hRd))
        | (go_at_call 86; (
            refine (HFi.out _ (by rfl)).mono ?_
            rintro e w4 ⟨rfl, hRd, hg4⟩
            have hz := heapOf HZ.out.1 hg4 (by omega)
            have hG := grownTrans HZ.out.2 hg4
            have r0 : w4.cell? ⟨w.heap.size, 0, none⟩ = some (.int .i64 0) := (cellAt' hz 0).trans rfl
            have r1 : w4.cell? ⟨w.heap.size, 1, none⟩ = some (.slice none 0 0) := (cellAt' hz 1).trans rfl
            have fr : ∀ f, w4.frozen? ⟨w.heap.size, f, none⟩ = false := fun f => frozenAt hz f
            have hsW : w.heap.size < w4.heap.size := (Array.getElem?_eq_some_iff.1 hz).1
            have HD := hid (And.intro hRd hG)
            clear hz hRd hG
            clear hg4)))
      refine bodyPost_ret (v := .agg #[.int .i64 0, (.slice none 0 0)]) (by simp [results, Tryz.results68, go_sem, r0, r1]) rfl ⟨(.slice none 0 0), ?_, ?_, ?_, ?_⟩
      · rw [HE.out]; rfl
      · rw [HE.out]
        exact Own.nil _ _
      · rw [HE.out]
        exact HD.out.1.keptN (grownSet2q _ _ _ _) fun j hj => ⟨by cases hj; omega, fun hh => by cases hj; have := HX.out _ hh; omega⟩
      · exact grownThen (grownTrans (World.grownBy_alloc w zeroV _) HD.out.2) (grownSet2q _ _ _ _) fun j hj => by cases hj; exact Nat.le_refl _
    · have HE := hid (valueS_yes he hset)
      rw [← HCS.out] at hset
      go_wp2_with (first
        | (go_at_call 45; (
            refine hN.mono ?_
            rintro e w1 ⟨rfl, hR, hg⟩
            have hs1 : w.heap.size < w1.heap.size := by have := hg.size; simp at this; omega
            have hC := cCmds hR (fun j hj => Nat.lt_of_lt_of_le (HX.out j hj) (by omega))
            rw [← HCS.out] at hC
            have HC := hid hC
            have HG := hid hg
            clear hR hg hC))
        | (go_at_call 87; (
            refine HC.out.mono ?_
            rintro e w2 ⟨r, rfl, hown, hR, hg⟩
            have hR2 := cSetRight hown.sl hln
            have H2 := hid (And.intro hown (And.intro hR (grownTrans HG.out hg)))
            have hs2 := hg.size
            obtain ⟨gr, capr, nr, rfl, hnr⟩ := hown.asSlice
            clear hnr hown hR hg
            rw [hset] at hR2))
        | (go_at_call 88; (
            refine hR2.mono ?_
            rintro e w3 ⟨rfl, hB⟩
            have hs3 := hB.size
            have hRd := H2.out.2.1.on hB
            have hG : (w.alloc zeroV).grownBy w3 (some p) := grownUnder H2.out.2.2 (hB.mono (by simp; omega))
            have hz : w3.heap[w.heap.size]? = some zeroV := heapB (heapOf (heap_alloc_new w zeroV) H2.out.2.2 (by omega)) hB (by omega)
            have HO := hid (own_sl_below H2.out.1 hB)
            clear hB
            have HFi := hid (fun r hr => cFine_ok' hRd he r hr)
            have r0 : w3.cell? ⟨w.heap.size, 0, none⟩ = some (.int .i64 0) := (cellAt' hz 0).trans rfl
            have r1 : w3.cell? ⟨w.heap.size, 1, none⟩ = some (.slice none 0 0) := (cellAt' hz 1).trans rfl
            have fr : ∀ f, w3.frozen? ⟨w.heap.size, f, none⟩ = false := fun f => frozenAt hz f
            have hsW : w.heap.size < w3.heap.size := (Array.getElem?_eq_some_iff.1 hz).1
            have HD := hid (And.intro hRd hG)
            clear hz hRd hG))
        | (go_at_call 86; (
            refine (HFi.out _ (by rfl)).mono ?_
            rintro e w4 ⟨rfl, rfl⟩)))
      refine bodyPost_ret (v := .agg #[.int .i64 (n : Nat), (.slice gr nr capr)]) (by simp [results, Tryz.results68, go_sem, r0, r1]) rfl ⟨(.slice gr nr capr), ?_, ?_, ?_, ?_⟩
      · rw [HE.out]; exact congrArg _ (by rw [HN.out])
      · rw [HE.out]
        rw [← HCS.out]; exact own_monoB (Own.kept' HO.out (grownSet2q _ _ _ _) (by omega)) (by omega)
      · rw [HE.out]
        exact HD.out.1.keptN (grownSet2q _ _ _ _) fun j hj => ⟨by cases hj; omega, fun hh => by cases hj; have := HX.out _ hh; omega⟩
      · exact grownThen (grownTrans (World.grownBy_alloc w zeroV _) HD.out.2) (grownSet2q _ _ _ _) fun j hj => by cases hj; exact Nat.le_refl _
  · have HE := hid (valueS_err he)
    go_wp2_with (first
      | (go_at_call 45; (
          refine hN.mono ?_
          rintro e w1 ⟨rfl, hR, hg⟩
          have hs1 : w.heap.size < w1.heap.size := by have := hg.size; simp at this; omega
          have hC := cCmds hR (fun j hj => Nat.lt_of_lt_of_le (HX.out j hj) (by omega))
          rw [← HCS.out] at hC
          have HC := hid hC
          have HG := hid hg
          clear hR hg hC))
      | (go_at_call 87; (
          refine HC.out.mono ?_
          rintro e w2 ⟨r, rfl, hown, hR, hg⟩
          have hR2 := cSetRight hown.sl hln
          have H2 := hid (And.intro hown (And.intro hR (grownTrans HG.out hg)))
          have hs2 := hg.size
          obtain ⟨gr, capr, nr, rfl, hnr⟩ := hown.asSlice
          clear hnr hown hR hg
          ))
      | (go_at_call 88; (
          refine hR2.mono ?_
          rintro e w3 ⟨rfl, hB⟩
          have hs3 := hB.size
          have hRd := H2.out.2.1.on hB
          have hG : (w.alloc zeroV).grownBy w3 (some p) := grownUnder H2.out.2.2 (hB.mono (by simp; omega))
          have hz : w3.heap[w.heap.size]? = some zeroV := heapB (heapOf (heap_alloc_new w zeroV) H2.out.2.2 (by omega)) hB (by omega)
          have HO := hid (own_sl_below H2.out.1 hB)
          clear hB
          have HFi := hid (fun r => cFine_bad hRd he r)
          have r0 : w3.cell? ⟨w.heap.size, 0, none⟩ = some (.int .i64 0) := (cellAt' hz 0).trans rfl
          have r1 : w3.cell? ⟨w.heap.size, 1, none⟩ = some (.slice none 0 0) := (cellAt' hz 1).trans rfl
          have fr : ∀ f, w3.frozen? ⟨w.heap.size, f, none⟩ = false := fun f => frozenAt hz f
          have hsW : w.heap.size < w3.heap.size := (Array.getElem?_eq_some_iff.1 hz).1
          have HD := hid (And.intro hRd hG)
          clear hz hRd hG))
      | (go_at_call 86; (
          refine (HFi.out _).mono ?_
          rintro e w4 ⟨rfl, rfl⟩)))
    refine bodyPost_ret (v := .agg #[.int .i64 0, (.slice none 0 0)]) (by simp [results, Tryz.results68, go_sem, r0, r1]) rfl ⟨(.slice none 0 0), ?_, ?_, ?_, ?_⟩
    · rw [HE.out]; rfl
    · rw [HE.out]
      exact Own.nil _ _
    · rw [HE.out]
      exact HD.out.1.keptN (grownSet2q _ _ _ _) fun j hj => ⟨by cases hj; omega, fun hh => by cases hj; have := HX.out _ hh; omega⟩
    · exact grownThen (grownTrans (World.grownBy_alloc w zeroV _) HD.out.2) (grownSet2q _ _ _ _) fun j hj => by cases hj; exact Nat.le_refl _
end Go.Proofs.YtpkkmfppdhjpkaaGreat
/- The document's reader: Cmd. -/
namespace Go.Proofs.YtpkkmfppdhjpkaaGreat
set_option linter.unusedVariables false
open Go.RowKit
open Go.Lib (hid)

/-- What the statement that builds a command reads. -/
def RawS (wr : World) (g : Nat) (c : C7) (W : World) : Prop := Below wr.heap.size wr W ∧ W.cell? ⟨g, 0, none⟩ = some (.int .i64 c.i) ∧ W.cell? ⟨g, 1, none⟩ = some (.int .i64 c.k) ∧ W.cell? ⟨g, 2, none⟩ = some (.int .i64 c.s) ∧ W.cell? ⟨g, 3, none⟩ = some (.int .i64 c.t) ∧ W.cell? ⟨g, 4, none⟩ = some (.int .i64 c.d) ∧ W.cell? ⟨g, 5, none⟩ = some (.int .i64 c.p) ∧ W.cell? ⟨g, 6, none⟩ = some (.int .i64 c.q)
theorem RawS.on {wr W W' : World} {g : Nat} {c : C7} (h : RawS wr g c W) (hg : g < wr.heap.size) (hb : Below wr.heap.size W W') : RawS wr g c W' := by
  obtain ⟨h0, h1, h2, h3, h4, h5, h6, h7⟩ := h
  have e := fun j => hb.cell (p := ⟨g, j, none⟩) hg
  exact ⟨h0.trans hb, (e 0).trans h1, (e 1).trans h2, (e 2).trans h3, (e 3).trans h4, (e 4).trans h5, (e 5).trans h6, (e 6).trans h7⟩

end Go.Proofs.YtpkkmfppdhjpkaaGreat
/- The document's reader: Cmds. -/

namespace Go.Proofs.YtpkkmfppdhjpkaaGreat
set_option linter.unusedVariables false
open Go.RowKit
open Go.Lib (hid)

end Go.Proofs.YtpkkmfppdhjpkaaGreat
/- The document's reader: Value. -/


namespace Go.Proofs.YtpkkmfppdhjpkaaGreat
set_option linter.unusedVariables false
open Go.RowKit
open Go.Lib (hid)

end Go.Proofs.YtpkkmfppdhjpkaaGreat
