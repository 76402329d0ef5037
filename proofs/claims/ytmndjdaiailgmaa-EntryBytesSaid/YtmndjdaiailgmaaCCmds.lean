/- The program's reader: Cmds. -/
import Derived.Test.YtmndjdaiailgmaaCCmd
import Derived.Test.YtmndjdaiailgmaaCmds
import Derived.Deep.LoopGhost
namespace Go.Proofs.Ytmndjdaiailgmaa
set_option linter.unusedVariables false
open Go.RowKit
open Go.Lib (hid)

theorem cCmd' {F : Nat → Prop} {p : Nat} {s : St} {w : World} (h : Rd 98 F w p s) (hF : ∀ k, F k → k < w.heap.size) : Calls Try.prog 47 #[ptr p] w fun x w' => x = .returned (.agg #[.int .i64 (cmdS s).1.i, .int .i64 (cmdS s).1.k, .int .i64 (cmdS s).1.s, .int .i64 (cmdS s).1.t, .int .i64 (cmdS s).1.d, .int .i64 (cmdS s).1.p, .int .i64 (cmdS s).1.q]) ∧ Rd 98 F w' p (cmdS s).2 ∧ w.grownBy w' (some p) := cCmd h hF

theorem cFine_ok' {F : Nat → Prop} {p : Nat} {s : St} {w : World} (h : Rd 98 F w p s) (he : s.2 = 0) (r : Bool) (hr : r = true) : Calls Try.prog 73 #[ptr p, .bool r] w fun x w' => x = .returned (.bool true) ∧ w = w' := by
  subst hr; exact cFine_ok h he
theorem cFine_no' {F : Nat → Prop} {p : Nat} {s : St} {w : World} (h : Rd 98 F w p s) (he : s.2 = 0) (r : Bool) (hr : r = false) : Calls Try.prog 73 #[ptr p, .bool r] w fun x w' => x = .returned (.bool false) ∧ Rd 98 F w' p ([], 2) ∧ w.grownBy w' (some p) := by
  subst hr; exact cFine_no h he

set_option maxHeartbeats 1600000 in
set_option maxRecDepth 100000 in
theorem cCmds {F : Nat → Prop} {p : Nat} {s : St} {w : World} (h : Rd 98 F w p s) (hF : ∀ k, F k → k < w.heap.size) : Calls Try.prog 75 #[ptr p] w fun x w' => ∃ r, x = .returned r ∧ Own w' w.heap.size r (cmdsS s).1 ∧ Rd 98 F w' p (cmdsS s).2 ∧ w.grownBy w' (some p) := by
  have hp := h.lt
  have HX := hid hF
  have hN := cNum h
  clear h hF
  obtain ⟨i0, hi, hz0, hz1, hz2⟩ := info_parts Try.infoC
  by_cases he : (numS s).2.2 = 0
  · obtain ⟨m, hm⟩ : ∃ m, m = (numS s).1 := ⟨_, rfl⟩
    rw [← hm] at hN
    by_cases hl : 1024 < m
    · have HE := hid (cmdsS_many (s := s) (by omega))
      have hl' : ¬ (m : Int) ≤ 1024 := by omega
      clear hm
      go_enter Try.func75, Try.ntmps75
      go_wp2_with (first | (go_at_call 48; refine hN.mono ?_; rintro e w1 ⟨rfl, hR, hg⟩; have HFi := hid (fun r hr => cFine_no' hR he r hr); have HG := hid hg; clear hR hg he) | (go_at_call 73; refine (HFi.out _ (by first | rfl | (simp; omega))).mono ?_; rintro e w2 ⟨rfl, hR, hg⟩))
      go_ret
      exact ⟨_, rfl, by rw [HE.out]; exact Own.nil _ _, by rw [HE.out]; exact hR, grownTrans HG.out hg⟩
    · have hl' : (m : Int) ≤ 1024 := by omega
      have HM := hid hm
      clear hm
      go_enter Try.func75, Try.ntmps75
      go_wp2_with (first | (go_at_call 48; refine hN.mono ?_; rintro e w1 ⟨rfl, hR, hg⟩; have HFi := hid (fun r hr => cFine_ok' hR he r hr); have HG := hid (And.intro hg hR); clear hR hg) | (go_at_call 73; refine (HFi.out _ (by first | rfl | (simp; omega))).mono ?_; rintro e w2 ⟨rfl, rfl⟩))
      go_loopg [4, 14] m (fun g u i wr => ∃ (k : Nat) (out : List C7) (st : St), k ≤ m ∧ g = m - k ∧ i = .int .i64 k ∧ out.length = k ∧ Own wr w.heap.size u out ∧ Hid (cmdsGo m [] (numS s).2 = cmdsGo (m - k) out st ∧ st.2 = 0 ∧ Rd 98 F wr p st ∧ w.grownBy wr (some p)))
      case atStart => exact ⟨0, [], (numS s).2, Nat.zero_le _, rfl, rfl, rfl, Own.nil _ _, hid ⟨rfl, he, HG.out.2, HG.out.1⟩⟩
      case round =>
        clear he HFi HG hN
        obtain ⟨k, out, st, hk, rfl, rfl, hout, hown, hst⟩ := hrel
        have hsz := hst.out.2.2.2.size
        by_cases hlt : k < m
        · have hC := cCmd' hst.out.2.2.1 (fun j hj => Nat.lt_of_lt_of_le (HX.out j hj) hsz)
          obtain ⟨c, hc⟩ : ∃ c, c = (cmdS st).1 := ⟨_, rfl⟩
          rw [← hc] at hC
          have HN := hid (show cmdsGo m [] (numS s).2 = cmdsGo (m - (k + 1)) (out ++ [c]) (cmdS st).2 by rw [hst.out.1, cmdsGo_next hlt hst.out.2.1, hc])
          have HO := hid hown
          have HL := hid hout
          clear hc hout
          by_cases he : (cmdS st).2.2 = 0
          · go_wp2_with (first | (go_at_call 47; refine hC.mono ?_; rintro e w3 ⟨rfl, hR, hg⟩; have hs3 := hg.size; have HE := hid (fun (W : World) (hB : Below w3.heap.size w3 W) => cErr (hR.on hB)); have H3 := hid (And.intro hR (And.intro hg (HO.out.kept' hg hp))); clear hR hg hown) | (go_at_call 50; refine (HE.out _ ((Below.refl _ w3).alloc (Nat.le_refl _) _)).mono ?_; rintro e w4 ⟨rfl, rfl⟩) | (at_builtin; refine wpList_append_own _ rfl _ _ 26 rfl w.heap.size 25 i0 _ 7 56 Try.underlying26 hi hz0 hz1 hz2 rfl (by decide) _ _ _ rfl ((H3.out.2.2.alloc _).alloc _) ⟨w3.heap.size + 1, 0, none⟩ 1 1 c.cells rfl rfl ?c1 ?c2 ?c3 ?c4 ?c5 ?_))
            case c1 => exact new_cell (by simp)
            case c2 => exact cells_one c
            case c3 => have := HL.out; unfold maxLen; omega
            case c4 => have := HL.out; omega
            case c5 => first | omega | (simp; omega)
            intro v' w5 hown' hgrow _
            have hO : Own w5 w.heap.size v' (out ++ [c]) := own_more hown' (by rfl)
            have hlt' := HO.out.lt
            have hR5 := ((H3.out.1.alloc (.cells c.cells.toArray 25)).alloc (.cells c.cells.toArray 25)).keptN hgrow fun j hj => ⟨by have := (hlt' j hj).1; omega, fun hh => by have := HX.out j hh; have := (hlt' j hj).1; omega⟩
            have hg5 := grownThen (grownAlloc (grownAlloc (grownTrans hst.out.2.2.2 H3.out.2.1) (.cells c.cells.toArray 25)) (.cells c.cells.toArray 25)) hgrow fun j hj => (hlt' j hj).1
            have HR := hid (And.intro hO (And.intro hR5 hg5))
            clear hown' hgrow hO hR5 hg5 hlt'
            go_wp2
            go_roundg (m - (k + 1))
            case measure => omega
            case rel => exact ⟨k + 1, _, _, by omega, rfl, by go_num, by rw [List.length_append, HL.out]; rfl, HR.out.1, hid ⟨HN.out, he, HR.out.2.1, HR.out.2.2⟩⟩
          · have HF := hid (cmdsS_fail (s := s) (by rw [← HM.out]; omega) (by rw [← HM.out, HN.out, cmdsGo_stop he]) he)
            obtain ⟨ee, hee⟩ : ∃ ee, ee = (cmdS st).2.2 := ⟨_, rfl⟩
            have HEE := hid hee
            rw [← hee] at he
            go_wp2_with (first | (go_at_call 47; refine hC.mono ?_; rintro e w3 ⟨rfl, hR, hg⟩; have hs3 := hg.size; have HE := hid (fun (W : World) (hB : Below w3.heap.size w3 W) => cErr (hR.on hB)); rw [← hee] at HE; have H3 := hid (And.intro hR hg); clear hR hg hown hee) | (go_at_call 50; refine (HE.out _ ((Below.refl _ w3).alloc (Nat.le_refl _) _)).mono ?_; rintro e w4 ⟨rfl, rfl⟩))
            go_ret
            exact ⟨_, rfl, by rw [HF.out]; exact Own.nil _ _, by rw [HF.out]; exact H3.out.1.alloc _, grownAlloc (grownTrans hst.out.2.2.2 H3.out.2) _⟩
        · obtain rfl : k = m := by omega
          have HF := hid (cmdsS_fin (s := s) (by rw [← HM.out]; omega) (by rw [← HM.out, hst.out.1, Nat.sub_self]; rfl) hst.out.2.1)
          have HO := hid hown
          clear hown
          go_wp2
          go_ret
          exact ⟨_, rfl, by rw [HF.out]; exact HO.out, by rw [HF.out]; exact hst.out.2.2.1, hst.out.2.2.2⟩
  · have HE := hid (cmdsS_err he)
    rw [numS_bad he] at hN
    go_enter Try.func75, Try.ntmps75
    go_wp2_with (first | (go_at_call 48; refine hN.mono ?_; rintro e w1 ⟨rfl, hR, hg⟩; have HFi := hid (fun r => cFine_bad hR he r); have HG := hid (And.intro hg hR); clear hR hg he) | (go_at_call 73; refine (HFi.out _).mono ?_; rintro e w2 ⟨rfl, rfl⟩))
    go_ret
    exact ⟨_, rfl, by rw [HE.out]; exact Own.nil _ _, by rw [HE.out]; exact HG.out.2, HG.out.1⟩
end Go.Proofs.Ytmndjdaiailgmaa
