/- The program's Minus: by the other list's names, sorted, and searched. -/
import Derived.Test.YtpocfhcdffobhaaNames
namespace Go.Proofs.Ytpocfhcdffobhaa
set_option linter.unusedVariables false
open Go.RowKit
open Go.Lib (hid)

set_option maxHeartbeats 800000 in
set_option maxRecDepth 100000 in
theorem cMinus {v v2 : Value} {cs ds : List C7} {w : World} (h : Sl w v cs) (h2 : Sl w v2 ds) (hl : cs.length ≤ 100000) (hl2 : ds.length ≤ 100000) : Calls Try.prog 13 #[v, v2] w fun e w' => ∃ r, e = .returned r ∧ Own w' w.heap.size r (minusL cs ds) ∧ Below w.heap.size w w' := by
  have hI := cIds h2 hl2
  clear h2
  obtain ⟨b, o, cap, a, rfl, ha, hc, hb⟩ := h.open
  clear h
  obtain ⟨i0, hi, hz0, hz1, hz2⟩ := info_parts Try.infoC
  have hil : (idsL ds).length ≤ 100000 := by unfold idsL; simpa using hl2
  go_enter Try.func13, Try.ntmps13
  go_wp2_with (go_at_call 16; refine hI.mono ?_; rintro e w1 ⟨r, rfl, hown1, hB1⟩; obtain ⟨g1, cap1, n1, rfl, hn1⟩ := hown1.asSlice; clear hn1)
  have hS := cSortNames hown1 hB1.size hil
  clear hI hown1
  go_wp2_with (go_at_call 26; refine hS.mono ?_; rintro e w2 ⟨rfl, hN2, hB2⟩)
  have HBB := hid (hB1.trans hB2)
  have HN := hid hN2
  clear hB1 hB2 hN2 hS
  go_loopw [6, 17] (fun u i wr => ∃ k : Nat, k ≤ cs.length ∧ i = .int .i64 k ∧ Own wr w2.heap.size u (minusL (cs.take k) ds) ∧ Below w2.heap.size w2 wr) (fun _ i _ => cs.length - (intOf i).toNat)
  case atStart => exact ⟨0, Nat.zero_le _, rfl, Own.nil _ _, Below.refl _ _⟩
  case round =>
    obtain ⟨k, hk, rfl, hown, hB⟩ := hrel
    have hsz := hB.size
    have hml : (minusL (cs.take k) ds).length ≤ k := Nat.le_trans (minus_len _ _) (by simp; omega)
    have HB := hid hB
    have HO := hid hown
    by_cases hlt : k < cs.length
    · obtain rfl := ha (by omega)
      obtain ⟨c, hcc⟩ : ∃ c, cs[k]? = some c := ⟨cs[k], List.getElem?_eq_getElem hlt⟩
      have hbw := hb (by omega)
      obtain ⟨c0, c1, c2, c3, c4, c5, c6⟩ := (hc.on (HBB.out.trans (hB.mono HBB.out.size)) hbw).at hcc
      obtain ⟨cnt, hQ⟩ := cSearch ((HN.out.on hB).on ((Below.refl _ wr).alloc (Nat.le_refl _) (.cells #[.int .i64 c.i, .int .i64 c.k, .int .i64 c.s, .int .i64 c.t, .int .i64 c.d, .int .i64 c.p, .int .i64 c.q] 34))) hil c.i
      rw [ids_has] at hQ
      have HC := hid hcc
      clear hcc hB
      rcases hp : placeI ds c.i with _ | j
      · rw [hp] at hQ
        simp only [Option.isSome_none] at hQ
        have HP := hid hp
        clear hp
        go_wp2_with (first | (go_at_call 27; refine hQ.mono ?_; rintro e w' ⟨rfl, q, rfl⟩) | (at_builtin; refine wpList_append_own _ rfl _ _ 22 rfl w2.heap.size 34 i0 _ 7 56 Try.underlying22 hi hz0 hz1 hz2 rfl (by decide) _ _ _ rfl ((own_drewN (hown.alloc _) _).alloc _) ⟨wr.heap.size + 1, 0, none⟩ 1 1 c.cells rfl rfl ?c1 ?c2 ?c3 ?c4 ?c5 ?_))
        case c1 => exact new_cell (by first | rfl | simp)
        case c2 => exact cells_one c
        case c3 => unfold maxLen; omega
        case c4 => omega
        case c5 => first | omega | (simp; omega)
        intro v' w3 hown' hgrow _
        have R := Own.grows ((Below.drewN' (HB.out.alloc hsz _) _).alloc (by simp; omega) _) (by simp; omega) (fun k hk => (HO.out.lt k hk).1) hown' hgrow
        rw [← minus_keep HC.out HP.out] at R
        clear hown' hgrow hown
        go_wp2
        go_roundw
        case rel => exact ⟨k + 1, by omega, by go_num, R.1, R.2⟩
        case measure => simp [intOf]; omega
      · rw [hp] at hQ
        simp only [Option.isSome_some] at hQ
        rw [← minus_drop HC.out hp] at hown
        have HR := hid hown
        clear hp hown
        go_wp2_with (go_at_call 27; refine hQ.mono ?_; rintro e w' ⟨rfl, q, rfl⟩)
        go_roundw
        case rel => exact ⟨k + 1, by omega, by go_num, own_drewN (HR.out.alloc _) _, Below.drewN' (HB.out.alloc hsz _) _⟩
        case measure => simp [intOf]; omega
    · rw [List.take_of_length_le (by omega)] at hown
      have HR := hid hown
      clear hown
      go_wp2
      go_ret
      exact ⟨_, rfl, own_mono HR.out HBB.out.size, HBB.out.trans (hB.mono HBB.out.size)⟩
end Go.Proofs.Ytpocfhcdffobhaa
