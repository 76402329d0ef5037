import Derived.Test.YtpkkmfppdhjpkaaGreatGa41
import Derived.Test.YtpkkmfppdhjpkaaGreatGa43
/- The law's Fits: at most 25 entries, each of which fits. -/
namespace Go.Proofs.YtpkkmfppdhjpkaaGreat
set_option linter.unusedVariables false
open Go.RowKit
open Go.Lib (hid)

set_option maxHeartbeats 4000000 in
set_option maxRecDepth 100000 in
theorem cJFits {v : Value} {es : List Ev} {w : World} {q : Nat} (hq : w.heap[q]? = some (.cells #[.int .u8 0, .int .i64 0, v, .int .i64 0] 25 (0, 0))) (h : SlE w v es) :
    Calls Tryz.prog 4 #[.slice (some ⟨q, 0, none⟩) 1 1] w fun z w' => ∃ bb, z = .returned (.bool bb) ∧ (bb = true → es.length ≤ 25 ∧ ∀ e ∈ es, fitsE e = true) ∧ Below w.heap.size w w' := by
  have hF := cFits
  obtain ⟨b, o, cap, a, rfl, ha, hc, hb⟩ := h
  have HC := hid hc
  have hql := (Array.getElem?_eq_some_iff.1 hq).1
  have k0 : w.cell? ⟨q, 2, none⟩ = some (.slice a es.length cap) := (cellAt' hq 2).trans rfl
  clear hq hc
  go_enter Tryz.func4, Tryz.ntmps4
  go_wp2_with fail
  go_loopw [3, 4] (fun n i wr => (i = .int .i64 0 ∧ n = .int .i64 0 ∧ wr = w) ∨ (i = .int .i64 1 ∧ (∃ m : Nat, m ≤ 25 ∧ n = .int .i64 m) ∧ Below w.heap.size w wr ∧ Hid (es.length ≤ 25 ∧ ∀ e ∈ es, fitsE e = true))) (fun _ i _ => 2 - (intOf i).toNat)
  case atStart => exact .inl ⟨rfl, rfl, rfl⟩
  case round =>
    obtain ⟨rfl, rfl, hw⟩ | ⟨rfl, ⟨m, hm, rfl⟩, hB, hG⟩ := hrel
    · subst wr
      go_wp2_with fail
      go_loopw [3, 5] (fun n i wr' => ∃ k : Nat, k ≤ es.length ∧ k ≤ 25 ∧ n = .int .i64 k ∧ i = .int .i64 k ∧ Hid (∀ e ∈ es.take k, fitsE e = true) ∧ Below w.heap.size w wr') (fun _ i _ => es.length - (intOf i).toNat)
      case atStart => exact ⟨0, Nat.zero_le _, by omega, rfl, rfl, hid (fun e he => by simp at he), Below.refl _ _⟩
      case round =>
        obtain ⟨k, hk, hk25, rfl, rfl, hF0, hB⟩ := hrel
        have HB := hid hB
        have k1 : wr.cell? ⟨q, 2, none⟩ = some (.slice a es.length cap) := (hB.cell (p := ⟨q, 2, none⟩) hql).trans k0
        by_cases hlt : k < es.length
        · obtain rfl := ha (by omega)
          obtain ⟨e, he⟩ : ∃ e, es[k]? = some e := ⟨es[k], List.getElem?_eq_getElem hlt⟩
          have HX : Hid (wr.rangeAt b (o + k * 19) e.list) := hid ((RowsG.on HC.out hB fun _ => hb (by omega)) k e he)
          have HE := hid he
          clear he hB
          rcases hf : fitsE e with _ | _
          · have hFe := hF e
            rw [hf] at hFe
            clear hf hF
            go_wp2_with (first
              | ((with_reducible refine loadEl (T := 48) (x := ?lx1) (b := ?lb1) (o := ?lo1) uE iE e ?lg1 ?lp1 ?lxx1 ?lc1 ?_); (case lg1 => rfl); (case lp1 => rfl); (case lxx1 => rfl); (case lc1 => exact HX.out))
              | (go_at_call 16; refine (hFe _).mono ?_; rintro z w1 ⟨rfl, hB1⟩; have HB1 := hid (HB.out.trans (hB1.mono HB.out.size)); clear hB1)
              | fail)
            go_ret
            exact ⟨false, rfl, fun h => by simp at h, HB1.out⟩
          · have hFe := hF e
            rw [hf] at hFe
            have hHe := hid hf
            clear hf
            by_cases h25 : k + 1 ≤ 25
            · have g1 : ¬ ((25 : Int) < (k : Int) + 1) := by omega
              have g2 : decide ((25 : Int) < (k : Int) + 1) = false := decide_eq_false g1
              go_wp2_with (first
                | ((with_reducible refine loadEl (T := 48) (x := ?lx2) (b := ?lb2) (o := ?lo2) uE iE e ?lg2 ?lp2 ?lxx2 ?lc2 ?_); (case lg2 => rfl); (case lp2 => rfl); (case lxx2 => rfl); (case lc2 => exact HX.out))
                | (go_at_call 16; refine (hFe _).mono ?_; rintro z w1 ⟨rfl, hB1⟩; have HB1 := hid (HB.out.trans (hB1.mono HB.out.size)); clear hB1)
                | fail)
              go_roundw
              case rel => exact ⟨k + 1, by omega, h25, rfl, rfl, hid (fun x hx => by
                rw [takeN_snoc HE.out] at hx
                rcases List.mem_append.1 hx with hx | hx
                · exact hF0.out x hx
                · rw [List.mem_singleton.1 hx]; exact hHe.out), HB1.out⟩
              case measure => simp [intOf]; omega
            · have g1 : (25 : Int) < (k : Int) + 1 := by omega
              have g2 : decide ((25 : Int) < (k : Int) + 1) = true := decide_eq_true g1
              go_wp2_with (first
                | ((with_reducible refine loadEl (T := 48) (x := ?lx3) (b := ?lb3) (o := ?lo3) uE iE e ?lg3 ?lp3 ?lxx3 ?lc3 ?_); (case lg3 => rfl); (case lp3 => rfl); (case lxx3 => rfl); (case lc3 => exact HX.out))
                | (go_at_call 16; refine (hFe _).mono ?_; rintro z w1 ⟨rfl, hB1⟩; have HB1 := hid (HB.out.trans (hB1.mono HB.out.size)); clear hB1)
                | fail)
              go_ret
              exact ⟨false, rfl, fun h => by simp at h, HB1.out⟩
        · have hkk : k = es.length := by omega
          subst hkk
          rw [List.take_length] at hF0
          clear hB
          go_wp2_with fail
          go_roundw
          case rel => exact .inr ⟨rfl, ⟨es.length, hk25, rfl⟩, HB.out, hid ⟨hk25, hF0.out⟩⟩
          case measure => simp [intOf]
    · have HB := hid hB
      clear hB
      have h25 : (1 : Int) ≤ 25 := by omega
      go_wp2_with fail
      go_ret
      exact ⟨_, rfl, fun _ => hG.out, HB.out⟩
end Go.Proofs.YtpkkmfppdhjpkaaGreat
