/- The program's numbers: how many commands there are, and each one's numbers. -/
import Derived.Test.YtmndjdaiailgmaaPutV
import Derived.Test.YtmndjdaiailgmaaMore
namespace Go.Proofs.Ytmndjdaiailgmaa
set_option linter.unusedVariables false
open Go.RowKit
open Go.Lib (hid)

set_option maxHeartbeats 1600000 in
set_option maxRecDepth 100000 in
theorem cNumbers {v : Value} {cs : List C7} {w : World} (h : Sl w v cs) (hl : cs.length ≤ 1024) : Calls Try.prog 67 #[v] w fun e w' => ∃ r, e = .returned r ∧ OwnN w' w.heap.size r ((cs.length : Int) :: numsAll cs) ∧ Below w.heap.size w w' := by
  obtain ⟨b, o, cap, a, rfl, _, ha, hc, hb⟩ := h
  obtain ⟨i0, hi, hz0, hz1, hz2⟩ := info_parts Try.infoI
  go_enter Try.func67, Try.ntmps67
  go_wp2
  have hlit := OwnN.lit w (cs.length : Int)
  go_loopw [3, 11] (fun u i wr => ∃ (k : Nat) (l : List Int), k ≤ cs.length ∧ i = .int .i64 k ∧ Hid (l = (cs.length : Int) :: numsAll (cs.take k)) ∧ OwnN wr w.heap.size u l ∧ Below w.heap.size w wr) (fun _ i _ => cs.length - (intOf i).toNat)
  case atStart => exact ⟨0, [(cs.length : Int)], Nat.zero_le _, rfl, hid (by simp [numsAll]), hlit, (Below.refl _ w).alloc (Nat.le_refl _) _⟩
  case round =>
    clear hlit
    obtain ⟨k, l, hk, rfl, hat, hown, hB⟩ := hrel
    have hsz := hB.size
    have hll : l.length = 1 + 7 * k := by rw [hat.out, List.length_cons, numsAll_len, List.length_take]; omega
    have HB := hid hB
    have HO := hid hown
    by_cases hlt : k < cs.length
    · obtain rfl := ha (by omega)
      obtain ⟨c, hcc⟩ : ∃ c, cs[k]? = some c := ⟨cs[k], List.getElem?_eq_getElem hlt⟩
      have hbw := hb (by omega)
      obtain ⟨c0, c1, c2, c3, c4, c5, c6⟩ := (hc.on hB hbw).at hcc
      have HC := hid hcc
      have HL := hid hll
      clear hcc hB hll
      go_wp2_with (at_builtin; refine wpList_append_own _ rfl _ _ 81 rfl w.heap.size 3 i0 _ 1 8 Try.underlying81 hi hz0 hz1 hz2 rfl (by decide) _ _ _ rfl ((hown.alloc _).alloc _) ⟨wr.heap.size + 1, 0, none⟩ 7 7 [.int .i64 c.i, .int .i64 c.k, .int .i64 c.s, .int .i64 c.t, .int .i64 c.d, .int .i64 c.p, .int .i64 c.q] rfl rfl ?c1 ?c2 ?c3 ?c4 ?c5 ?_)
      case c2 => exact ⟨rfl, rfl, rfl, rfl, rfl, rfl, rfl⟩
      case c3 => have := HL.out; unfold maxLen; omega
      case c4 => have := HL.out; omega
      case c5 => first | omega | (simp; omega)
      intro v' w2 hown' hgrow _
      have R := OwnN.grows (b := c.nums) ((HB.out.alloc hsz _).alloc (by simp; omega) _) (by simp; omega) (fun k hk => (HO.out.lt k hk).1) hown' rfl hgrow
      clear hown' hgrow hown
      go_wp2
      go_roundw
      case rel => exact ⟨k + 1, _, by omega, by go_num, hid (by rw [hat.out, numsAll_next HC.out, List.cons_append]), R.1, R.2⟩
      case measure => simp [intOf]; omega
    · have HL := hid (show l = (cs.length : Int) :: numsAll cs from by rw [hat.out, List.take_of_length_le (by omega)])
      clear hown
      go_wp2
      go_ret
      exact ⟨_, rfl, by rw [← HL.out]; exact HO.out, hB⟩
end Go.Proofs.Ytmndjdaiailgmaa
