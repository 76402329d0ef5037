/- Whether two lists of commands are the same: the library's Equal, the program's Same. -/
import Derived.Test.YtmndjdaiailgmaaSameR
namespace Go.Proofs.Ytmndjdaiailgmaa
set_option linter.unusedVariables false
open Go.RowKit
open Go.Lib (hid)

set_option maxHeartbeats 600000 in
set_option maxRecDepth 100000 in
theorem cEqual {v v' : Value} {cs ds : List C7} {w : World} (h : Sl w v cs) (h' : Sl w v' ds) (hl : cs.length ≤ 100000) (hl' : ds.length ≤ 100000) : Calls Try.prog 90 #[v, v'] w fun e w' => e = .returned (.bool (sameB cs ds)) ∧ Below w.heap.size w w' := by
  obtain ⟨b, o, cap, a, rfl, ha, hc, hb⟩ := h.open
  obtain ⟨b', o', cap', a', rfl, ha', hc', hb'⟩ := h'.open
  clear h h'
  by_cases hlen : cs.length = ds.length
  · rw [hlen] at ha hb hl
    rw [hlen]
    have HL := hid hlen
    clear hlen
    go_enter Try.func90, Try.ntmps90
    go_wp2
    go_loopw [13] (fun i wr => ∃ k : Nat, k ≤ ds.length ∧ i = .int .i64 k ∧ Hid (∀ j, j < k → ∀ x, cs[j]? = some x → ∀ y, ds[j]? = some y → x.same y = true) ∧ Below w.heap.size w wr) (fun i _ => ds.length - (intOf i).toNat)
    case atStart => exact ⟨0, Nat.zero_le _, rfl, fun j hj => absurd hj (by omega), Below.refl _ _⟩
    case round =>
      obtain ⟨k, hk, rfl, hak, hB⟩ := hrel
      by_cases hlt : k < ds.length
      · obtain rfl := ha (by omega)
        obtain rfl := ha' (by omega)
        obtain ⟨x, hxx⟩ : ∃ x, cs[k]? = some x := ⟨cs[k]'(by rw [HL.out]; exact hlt), List.getElem?_eq_getElem (by rw [HL.out]; exact hlt)⟩
        obtain ⟨y, hyy⟩ : ∃ y, ds[k]? = some y := ⟨ds[k], List.getElem?_eq_getElem (by omega)⟩
        have hbw := hb (by omega)
        have hbw' := hb' (by omega)
        obtain ⟨c0, c1, c2, c3, c4, c5, c6⟩ := (hc.on hB hbw).at hxx
        obtain ⟨d0, d1, d2, d3, d4, d5, d6⟩ := (hc'.on hB hbw').at hyy
        have HX := hid (And.intro hxx hyy)
        have HB := hid hB
        clear hxx hyy hB
        rcases hs : x.same y with _ | _
        · have hE := neqC hs
          have hG := fun op p q W => guardC op p q x y W
          have HS := hid hs
          clear hs
          go_wp2
          go_quiet (fail)
          go_wp2
          go_ret
          exact ⟨ret_bool (same_no HX.out.1 HX.out.2 HS.out).symm, Below.drewN' HB.out _⟩
        · have hE := neqC hs
          have hG := fun op p q W => guardC op p q x y W
          have HS := hid hs
          clear hs
          go_wp2
          go_quiet (fail)
          go_wp2
          go_roundw
          case rel => exact ⟨k + 1, by omega, by go_num, same_next hak.out HX.out.1 HX.out.2 HS.out, Below.drewN' HB.out _⟩
          case measure => simp [intOf]; omega
      · have HS : Hid (sameB cs ds = true) := same_yes HL.out (by rw [HL.out]; omega) hak.out
        go_wp2
        go_ret
        exact ⟨ret_bool HS.out.symm, hB⟩
  · have HS : Hid (sameB cs ds = false) := same_len hlen
    go_enter Try.func90, Try.ntmps90
    go_wp2
    go_ret
    exact ⟨ret_bool HS.out.symm, Below.refl _ _⟩

theorem cSame {v v' : Value} {cs ds : List C7} {w : World} (h : Sl w v cs) (h' : Sl w v' ds) (hl : cs.length ≤ 100000) (hl' : ds.length ≤ 100000) : Calls Try.prog 86 #[v, v'] w fun e w' => e = .returned (.bool (sameB cs ds)) ∧ Below w.heap.size w w' := by
  have hE := cEqual h h' hl hl'
  clear h h'
  go_enter Try.func86, Try.ntmps86
  go_wp2_with (go_at_call 90; refine hE.mono ?_; rintro e w' ⟨rfl, hB⟩)
  go_ret
  exact ⟨rfl, hB⟩
end Go.Proofs.Ytmndjdaiailgmaa
