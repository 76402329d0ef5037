/- The program's PutCmds and PutValue: commands' bytes, a value's. -/
import Derived.Test.YtmndjdaiailgmaaCPut
import Derived.Test.YtmndjdaiailgmaaCNumbers
namespace Go.Proofs.Ytmndjdaiailgmaa
set_option linter.unusedVariables false
open Go.RowKit
open Go.Lib (hid)

set_option maxHeartbeats 1600000 in
set_option maxRecDepth 100000 in
theorem cPutCmds {v : Value} {cs : List C7} {w : World} (h : Sl w v cs) (hl : cs.length ≤ 400) : Calls Try.prog 69 #[v] w fun e w' => ∃ r, e = .returned (.tuple #[r, .int .i64 (putCE cs)]) ∧ OwnB w' w.heap.size r (putCB cs) ∧ Below w.heap.size w w' := by
  have H := hid h
  have hR := cRight' h (by omega)
  obtain ⟨b, o, cap, a, rfl, _, ha, hc, hb⟩ := h
  rcases hok : cs.all C7.ok with _ | _
  · rw [hok] at hR
    have HE := hid (putC_no (cs := cs) (fun hh => by rw [hok] at hh; exact absurd hh.1 (by simp)))
    clear hok
    go_enter Try.func69, Try.ntmps69
    go_wp2_with (go_at_call 17; refine hR.mono ?_; rintro e w' ⟨rfl, hB⟩)
    go_ret2
    refine ⟨.slice none 0 0, ?_, ?_, hB⟩
    · rw [HE.out.1]; rfl
    · rw [HE.out.2]; exact OwnB.nil _ _
  · rw [hok] at hR
    have HE := hid (putC_ok hok (by omega))
    have HP := hid (numsAll_put hok (by omega))
    clear hok
    go_enter Try.func69, Try.ntmps69
    go_wp2_with (go_at_call 17; refine hR.mono ?_; rintro e w0 ⟨rfl, hB0⟩)
    have hN := cNumbers (H.out.on hB0) (by omega)
    have hs0 := hB0.size
    have HB0 := hid hB0
    clear hB0
    go_wp2_with (go_at_call 67; refine hN.mono ?_; rintro e w1 ⟨r, rfl, hown, hB1⟩)
    have hP := cPutN hown.sl (by rw [List.length_cons, numsAll_len]; omega)
    rw [HP.out.1, HP.out.2] at hP
    have hs1 := hB1.size
    have HB1 := hid (HB0.out.trans (hB1.mono hs0))
    clear hown hB1
    go_wp2_with (go_at_call 37; refine hP.mono ?_; rintro e w3 ⟨r3, rfl, hown3, hB3⟩)
    go_ret2
    refine ⟨r3, ?_, ?_, HB1.out.trans (hB3.mono (by omega))⟩
    · rw [HE.out.1]; rfl
    · rw [HE.out.2]; exact own_monoB hown3 (by omega)

theorem putV_put {t : Int} {cs : List C7} (h : setB cs = true) : putE ([t] ++ ((cs.length : Int) :: numsAll cs)) = putVE t cs ∧ putB ([t] ++ ((cs.length : Int) :: numsAll cs)) = putVB t cs := by
  obtain ⟨hok, hln⟩ := setB_ok h
  rw [List.singleton_append]
  rcases ht : in40 t with _ | _
  · have h1 := putV_no (t := t) (cs := cs) (fun hh => by rw [ht] at hh; exact absurd hh.2 (by simp))
    have h2 := put_no (l := t :: ((cs.length : Int) :: numsAll cs)) (k := 0) rfl ht
    exact ⟨h2.1.trans h1.1.symm, h2.2.trans h1.2.symm⟩
  · have h1 := putV_ok h ht
    have hp := numsAll_put hok hln
    have ha : ((cs.length : Int) :: numsAll cs).all in40 = true := by
      have := hp.1
      unfold putE at this
      split at this
      · assumption
      · cases this
    have hp2 := (put_ok ha).2
    have h2 := put_ok (l := t :: ((cs.length : Int) :: numsAll cs)) (by rw [List.all_cons, ht, ha]; rfl)
    refine ⟨h2.1.trans h1.1.symm, h2.2.trans ?_⟩
    rw [h1.2]
    unfold valueBytes
    rw [← hp.2, hp2]
    unfold putAll
    rw [List.flatMap_cons]

set_option maxHeartbeats 1600000 in
set_option maxRecDepth 100000 in
theorem cPutValue {v : Value} {cs : List C7} {w : World} (t : Int) (h : Sl w v cs) (hl : cs.length ≤ 400) : Calls Try.prog 38 #[.agg #[.int .i64 t, v]] w fun e w' => ∃ r, e = .returned (.tuple #[r, .int .i64 (putVE t cs)]) ∧ OwnB w' w.heap.size r (putVB t cs) ∧ Below w.heap.size w w' := by
  have H := hid h
  have hR := fun W (hB : Below w.heap.size w W) => cSetRight (H.out.on hB) (by omega)
  obtain ⟨_, _, cap, a, rfl, _⟩ := h
  obtain ⟨i0, hi, hz0, hz1, hz2⟩ := info_parts Try.infoI
  rcases hs : setB cs with _ | _
  · have HE := hid (putV_no (t := t) (cs := cs) (fun hh => by rw [hs] at hh; exact absurd hh.1 (by simp)))
    rw [hs] at hR
    clear hs
    go_enter Try.func38, Try.ntmps38
    go_wp2_with (go_at_call 66; refine (hR _ ((Below.refl _ w).alloc (Nat.le_refl _) _)).mono ?_; rintro e w1 ⟨rfl, hB⟩; obtain ⟨hcell, hz, hBw⟩ := box_cells hB; have HB := hid hBw; clear hB hcell hBw)
    go_ret2
    refine ⟨.slice none 0 0, ?_, ?_, HB.out⟩
    · rw [HE.out.1]; rfl
    · rw [HE.out.2]; exact OwnB.nil _ _
  · rw [hs] at hR
    have HP := hid (putV_put (t := t) hs)
    clear hs
    go_enter Try.func38, Try.ntmps38
    go_wp2_with (go_at_call 66; refine (hR _ ((Below.refl _ w).alloc (Nat.le_refl _) _)).mono ?_; rintro e w1 ⟨rfl, hB⟩; obtain ⟨hcell, hz, hBw⟩ := box_cells hB; have k0 : w1.cell? ⟨w.heap.size, 0, none⟩ = some (.int .i64 t) := hcell 0; have k1 : w1.cell? ⟨w.heap.size, 1, none⟩ = some (.slice a cs.length cap) := hcell 1; have HB := hid hBw; have hs1 := hB.size; clear hB hcell hBw)
    have hN := cNumbers (H.out.on (HB.out.alloc HB.out.size (.cells #[.int .i64 t] 3))) (by omega)
    have hlit := hid (OwnN.lit w1 t)
    have hsw := HB.out.size
    simp at hs1
    go_wp2_with (first | (go_at_call 67; refine hN.mono ?_; rintro e w2 ⟨r, rfl, hown, hB2⟩; obtain ⟨g, cg, rfl⟩ : ∃ g cg, r = .slice (some ⟨g, 0, none⟩) (1 + 7 * cs.length) cg := (by
          rcases hown.2 with ⟨_, h0⟩ | ⟨g, cg, cur, e, _⟩
          · rw [List.length_cons] at h0; omega
          · exact ⟨g, cg, by rw [e, List.length_cons, numsAll_len, Nat.add_comm]⟩); have hs2 := hB2.size; have h0 := own_below hlit.out hB2 (fun k hk => by cases hk; simp); have HO := hid (And.intro hown (And.intro hB2 h0)); clear hown hB2 h0) | (at_builtin; refine wpList_append_own _ rfl _ _ 81 rfl w.heap.size 3 i0 _ 1 8 Try.underlying81 hi hz0 hz1 hz2 rfl (by decide) _ _ _ rfl (own_monoB HO.out.2.2 hsw) ⟨g, 0, none⟩ (1 + 7 * cs.length) cg (ints ((cs.length : Int) :: numsAll cs)) rfl ?c0 ?c1 ?c2 ?c3 ?c4 ?c5 ?_))
    case c0 => rw [ints_len, List.length_cons, numsAll_len]; omega
    case c1 => exact HO.out.1.cells rfl
    case c2 => exact ints_one _
    case c3 => unfold maxLen; simp only [List.length_singleton]; omega
    case c4 => simp only [List.length_singleton]; omega
    case c5 => simp at hs2; omega
    intro v' w3 hown' hgrow _
    have R := OwnN.grows (a := [t]) (b := (cs.length : Int) :: numsAll cs) ((HB.out.alloc hsw _).trans (HO.out.2.1.mono (by simp; omega))) (by simp at hs2; omega) (fun k hk => by cases hk; exact hsw) hown' (by simp [numsAll_len]; omega) hgrow
    obtain ⟨gv, cv, nv, rfl, hnv⟩ := OwnN.asSlice R.1
    clear hown' hgrow hnv
    have hP := cPutN (OwnN.sl R.1) (by simp [numsAll_len]; omega)
    rw [HP.out.1, HP.out.2] at hP
    have hs3 := R.2.size
    have HR := hid R
    clear R
    go_wp2_with (go_at_call 37; refine hP.mono ?_; rintro e w4 ⟨r4, rfl, hown4, hB4⟩)
    go_ret2
    exact ⟨r4, rfl, own_monoB hown4 hs3, HR.out.2.trans (hB4.mono hs3)⟩
end Go.Proofs.Ytmndjdaiailgmaa
