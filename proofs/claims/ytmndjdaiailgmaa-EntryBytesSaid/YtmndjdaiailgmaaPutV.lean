/- The document's PutValue: a value's bytes. -/
import Derived.Test.YtmndjdaiailgmaaPutCs
namespace Go.Proofs.Ytmndjdaiailgmaa
set_option linter.unusedVariables false
open Go.RowKit
open Go.Lib (hid)

theorem cmdsBytes_len : ∀ (l : List C7), l.all C7.ok = true → l.length ≤ 1024 → (cmdsBytes l).length ≤ 6 + 42 * l.length := fun l h hl => by
  have := (numsAll_put h hl).2
  rw [← this, (put_ok (l := (l.length : Int) :: numsAll l) ?_).2]
  · have hh := putAll_len ((l.length : Int) :: numsAll l) ?_
    · rw [List.length_cons, numsAll_len] at hh; omega
    all_goals
      rw [List.all_cons, in40_true.2 (by omega), Bool.true_and, List.all_eq_true]
      intro x hx
      unfold numsAll at hx
      obtain ⟨c, hc, hxc⟩ := List.mem_flatMap.1 hx
      exact List.all_eq_true.1 (C7.nums_ok (List.all_eq_true.1 h c hc)) x hxc
  · rw [List.all_cons, in40_true.2 (by omega), Bool.true_and, List.all_eq_true]
    intro x hx
    unfold numsAll at hx
    obtain ⟨c, hc, hxc⟩ := List.mem_flatMap.1 hx
    exact List.all_eq_true.1 (C7.nums_ok (List.all_eq_true.1 h c hc)) x hxc

theorem OwnB.some {w : World} {B : Nat} {v : Value} {l : List UInt8} (h : OwnB w B v l) (hl : l ≠ []) : ∃ g cap, v = .slice (Option.some ⟨g, 0, none⟩) l.length cap := by
  rcases h.shape with ⟨_, e⟩ | ⟨g, cap, e, _⟩
  · exact absurd e hl
  · exact ⟨g, cap, e⟩
theorem cmdsBytes_ne (l : List C7) : cmdsBytes l ≠ [] := fun h => oneN_ne _ (List.append_eq_nil_iff.1 h).1

set_option maxHeartbeats 1600000 in
set_option maxRecDepth 100000 in
theorem rPutValue {v : Value} {cs : List C7} {w : World} (t : Int) (h : Sl w v cs) (hl : cs.length ≤ 400) : Calls Try.prog 54 #[.agg #[.int .i64 t, v]] w fun e w' => ∃ r, e = .returned (.tuple #[r, .int .i64 (putVE t cs)]) ∧ OwnB w' w.heap.size r (putVB t cs) ∧ Below w.heap.size w w' := by
  have H := hid h
  have hR := fun W (hB : Below w.heap.size w W) => rSetRight (H.out.on hB) (by omega)
  obtain ⟨_, _, cap, a, rfl, _⟩ := h
  have hI := fun W => rIn40 t W
  obtain ⟨i0, hi, hz0, hz1, hz2⟩ := info_parts Try.infoB
  rcases hs : setB cs with _ | _
  · have HE := hid (putV_no (t := t) (cs := cs) (fun hh => by rw [hs] at hh; exact absurd hh.1 (by simp)))
    rw [hs] at hR
    clear hs
    go_enter Try.func54, Try.ntmps54
    go_wp2_with (first | (go_at_call 77; refine (hR _ ((Below.refl _ w).alloc (Nat.le_refl _) _)).mono ?_; rintro e w1 ⟨rfl, hB⟩; obtain ⟨hcell, hz, hBw⟩ := box_cells hB; have hB1 := hid hB; have k0 : w1.cell? ⟨w.heap.size, 0, none⟩ = some (.int .i64 t) := hcell 0; have HB := hid hBw; clear hB hcell hBw) | (go_at_call 76; refine (hI _).mono ?_; rintro e w' ⟨rfl, rfl⟩))
    go_ret2
    refine ⟨.slice none 0 0, ?_, ?_, HB.out⟩
    · rw [HE.out.1]; rfl
    · rw [HE.out.2]; exact OwnB.nil _ _
  · rw [hs] at hR
    rcases ht : in40 t with _ | _
    · have HE := hid (putV_no (t := t) (cs := cs) (fun hh => by rw [ht] at hh; exact absurd hh.2 (by simp)))
      rw [ht] at hI
      clear hs ht
      go_enter Try.func54, Try.ntmps54
      go_wp2_with (first | (go_at_call 77; refine (hR _ ((Below.refl _ w).alloc (Nat.le_refl _) _)).mono ?_; rintro e w1 ⟨rfl, hB⟩; obtain ⟨hcell, hz, hBw⟩ := box_cells hB; have k0 : w1.cell? ⟨w.heap.size, 0, none⟩ = some (.int .i64 t) := hcell 0; have HB := hid hBw; clear hB hcell hBw) | (go_at_call 76; refine (hI _).mono ?_; rintro e w' ⟨rfl, rfl⟩))
      go_ret2
      refine ⟨.slice none 0 0, ?_, ?_, HB.out⟩
      · rw [HE.out.1]; rfl
      · rw [HE.out.2]; exact OwnB.nil _ _
    · have HE := hid (putV_ok hs ht)
      obtain ⟨hok, hln⟩ := setB_ok hs
      obtain ⟨ht0, ht1⟩ := in40_true.1 ht
      have HC := hid (putC_ok hok hln)
      have hcb := cmdsBytes_len cs hok hln
      have HT := hid (show putE [t] = 0 ∧ putB [t] = oneN t.toNat from by
        have := put_ok (l := [t]) (by simp [ht])
        rw [this.1, this.2]; exact ⟨rfl, by simp [putAll]⟩)
      have ht6 := oneN_six (n := t.toNat) (by omega)
      have HK := hid hok
      rw [ht] at hI
      clear hs ht hok
      go_enter Try.func54, Try.ntmps54
      go_wp2_with (first | (go_at_call 77; refine (hR _ ((Below.refl _ w).alloc (Nat.le_refl _) _)).mono ?_; rintro e w1 ⟨rfl, hB⟩; obtain ⟨hcell, hz, hBw⟩ := box_cells hB; have k0 : w1.cell? ⟨w.heap.size, 0, none⟩ = some (.int .i64 t) := hcell 0; have k1 : w1.cell? ⟨w.heap.size, 1, none⟩ = some (.slice a cs.length cap) := hcell 1; have HB := hid hBw; clear hB hcell hBw) | (go_at_call 76; refine (hI _).mono ?_; rintro e w' ⟨rfl, rfl⟩))
      have hP := rPutN (OwnN.sl (OwnN.lit w1 t)) (by simp)
      rw [HT.out.1, HT.out.2] at hP
      go_wp2_with (go_at_call 53; refine hP.mono ?_; rintro e w2 ⟨ra, rfl, hoa, hB2⟩; have k2 : w2.cell? ⟨w.heap.size, 1, none⟩ = some (.slice a cs.length cap) := (hB2.cell (p := ⟨w.heap.size, 1, none⟩) (by simp; omega)).trans ((World.cell?_alloc_past _ _ _ (by omega)).trans k1); obtain ⟨ga, ca, na, rfl, hna⟩ := hoa.asSlice; have HA := hid (And.intro hoa hB2); clear hoa hB2 hna)
      have hB12 : Below w.heap.size w w2 := HB.out.trans ((((Below.refl _ w1).alloc (Nat.le_refl _) _).trans (HA.out.2.mono (by simp))).mono HB.out.size)
      have hPC := rPutCmds (H.out.on hB12) (by omega) (fun _ => .inl hl)
      rw [HC.out.1, HC.out.2] at hPC
      have HB12 := hid hB12
      have hs2 := hB12.size
      clear hB12
      go_wp2_with (first | (go_at_call 78; refine hPC.mono ?_; rintro e w3 ⟨rb, rfl, hob, hB3⟩; obtain ⟨gb, cb, rfl⟩ := hob.some (cmdsBytes_ne cs); have hs3 := hB3.size; have h0 := own_below (own_monoB HA.out.1 (B' := w.heap.size) (by have := HB.out.size; simp; omega)) hB3 (fun k hk => (HA.out.1.lt k hk).2); have H3 := hid (And.intro hob (And.intro hB3 h0)); clear hob hB3 h0) | (at_builtin; refine wpList_append_own _ rfl _ _ 42 rfl w.heap.size 5 i0 _ 1 1 Try.underlying42 hi hz0 hz1 hz2 rfl (by decide) _ _ _ rfl H3.out.2.2 ⟨gb, 0, none⟩ (cmdsBytes cs).length cb (octs (cmdsBytes cs)) rfl ?c0 ?c1 ?c2 ?c3 ?c4 ?c5 ?_))
      case c0 => rw [octs_len, Nat.mul_one]
      case c1 => exact H3.out.1.cells rfl
      case c2 => exact octs_one _
      case c3 => unfold maxLen; omega
      case c4 => omega
      case c5 => omega
      intro v' w4 hown' hgrow _
      have R := OwnB.grows (HB12.out.trans (H3.out.2.1.mono hs2)) (by omega) (fun k hk => Nat.le_trans HB.out.size (by have := (HA.out.1.lt k hk).1; simp at this; omega)) hown' rfl hgrow
      obtain ⟨gv, cv, nv, rfl, _⟩ := OwnB.asSlice R.1
      clear hown' hgrow
      go_wp2
      go_ret2
      refine ⟨.slice gv nv cv, ?_, ?_, R.2⟩
      · rw [HE.out.1]; rfl
      · rw [HE.out.2]; exact R.1
end Go.Proofs.Ytmndjdaiailgmaa
