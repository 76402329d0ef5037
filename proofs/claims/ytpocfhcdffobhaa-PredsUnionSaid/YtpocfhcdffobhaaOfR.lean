/- The document's Of: the set of commands, or the error. -/
import Derived.Test.YtpocfhcdffobhaaPut
namespace Go.Proofs.Ytpocfhcdffobhaa
set_option linter.unusedVariables false
open Go.RowKit
open Go.Lib (hid)

theorem Sl.drewN {w : World} {v : Value} {cs : List C7} (h : Sl w v cs) (q : Nat) : Sl (w.drewN q) v cs := h
abbrev slE (r : Value) (n : Int) : Value := .tuple #[r, .int .i64 n]
/-- A slice that the call made, with a number for its length. -/
theorem Own.parts {w : World} {B : Nat} {v : Value} {cs : List C7} (h : Own w B v cs) (h0 : 0 < cs.length) : ∃ g cap n, v = .slice (some ⟨g, 0, none⟩) n cap ∧ n = cs.length ∧ B ≤ g ∧ g < w.heap.size ∧
    ∀ j c, cs[j]? = some c → w.cell? ⟨g, j * 7, none⟩ = some (.int .i64 c.i) ∧ w.cell? ⟨g, j * 7 + 1, none⟩ = some (.int .i64 c.k) ∧ w.cell? ⟨g, j * 7 + 2, none⟩ = some (.int .i64 c.s) ∧ w.cell? ⟨g, j * 7 + 3, none⟩ = some (.int .i64 c.t) ∧
    w.cell? ⟨g, j * 7 + 4, none⟩ = some (.int .i64 c.d) ∧ w.cell? ⟨g, j * 7 + 5, none⟩ = some (.int .i64 c.p) ∧ w.cell? ⟨g, j * 7 + 6, none⟩ = some (.int .i64 c.q) := by
  rcases h.shape with ⟨_, rfl⟩ | ⟨g, cap, rfl, hb, hl, hc⟩
  · simp at h0
  · refine ⟨g, cap, _, rfl, rfl, hb, hl, fun j c hj => ?_⟩
    have := hc.at hj
    simp only [Nat.zero_add] at this
    exact this

theorem Own.asSlice {w : World} {B : Nat} {v : Value} {cs : List C7} (h : Own w B v cs) : ∃ (g : Option Addr) (cap n : Nat), v = .slice g n cap ∧ n = cs.length := by
  rcases h.shape with ⟨e, e'⟩ | ⟨g, cap, e, _⟩
  · exact ⟨none, 0, 0, e, by rw [e']; rfl⟩
  · exact ⟨_, cap, _, e, rfl⟩

set_option maxHeartbeats 1600000 in
set_option maxRecDepth 100000 in
theorem rOf {v : Value} {cs : List C7} {w : World} (h : Sl w v cs) (hl : cs.length ≤ 1024) : Calls Try.prog 7 #[v] w fun e w' => ∃ r, e = .returned (slE r (ofE cs)) ∧ Own w' w.heap.size r (ofL cs) ∧ Below w.heap.size w w' := by
  have hR := rRights' h (by omega)
  obtain ⟨b, o, cap, a, rfl, ha, hc, hb⟩ := h.open
  clear h
  rcases hok : cs.all C7.ok with _ | _
  · rw [hok] at hR
    have HE := hid (of_bad hok)
    clear hok
    go_enter Try.func7, Try.ntmps7
    go_wp2_with (go_at_call 24; refine hR.mono ?_; rintro e w' ⟨rfl, hB⟩)
    go_ret2
    refine ⟨.slice none 0 0, ?_, ?_, hB⟩
    · rw [HE.out.1]; rfl
    · rw [HE.out.2]; exact Own.nil _ _
  · rw [hok] at hR
    have HK := hid hok
    clear hok
    go_enter Try.func7, Try.ntmps7
    go_wp2_with (go_at_call 24; refine hR.mono ?_; rintro e w' ⟨rfl, hB'⟩)
    go_loopw [5, 6] (fun u i wr => ∃ (k : Nat) (out : List C7), k ≤ cs.length ∧ i = .int .i64 k ∧ Hid (clashB (cs.take k) = false ∧ out = setL (cs.take k)) ∧ Own wr w.heap.size u out ∧ Below w.heap.size w wr) (fun _ i _ => cs.length - (intOf i).toNat)
    case atStart => exact ⟨0, [], Nat.zero_le _, rfl, ⟨by simp [clashB], by simp [setL]⟩, Own.nil _ _, hB'⟩
    case round =>
      clear hB'
      obtain ⟨k, out, hk, rfl, hat, hown, hB⟩ := hrel
      have hsz := hB.size
      have hol : out.length ≤ k := by rw [hat.out.2]; exact Nat.le_trans (setL_len _) (by simp; omega)
      have HB := hid hB
      have HO := hid hown
      by_cases hlt : k < cs.length
      · obtain rfl := ha (by omega)
        obtain ⟨c, hcc⟩ : ∃ c, cs[k]? = some c := ⟨cs[k], List.getElem?_eq_getElem hlt⟩
        have hbw := hb (by omega)
        obtain ⟨c0, c1, c2, c3, c4, c5, c6⟩ := (hc.on hB hbw).at hcc
        have HC := hid hcc
        have hF := rFind hown.sl (by omega) c.i
        have hP := fun q => rPut (hown.sl.drewN q) (by omega) c
        clear hcc hB
        rcases hp : placeI out c.i with _ | j
        · rw [placeV_none hp] at hF
          have HS := hid (step_fine HC.out hat.out.1 (fun j d h => by rw [← hat.out.2, hp] at h; cases h))
          clear hp hown
          go_wp2_with (go_at_call 12; refine hF.mono ?_; rintro e w' ⟨rfl, rfl⟩)
          go_quiet (fail)
          go_wp2_with (go_at_call 25; refine (hP _).mono ?_; rintro e w1 ⟨r, rfl, hown1, hB1⟩)
          go_roundw
          case rel => exact ⟨k + 1, putL out c, by omega, by go_num, hid ⟨HS.out.1, by rw [HS.out.2, hat.out.2]⟩, own_mono hown1 hsz, (Below.drewN' HB.out _).trans (hB1.mono hsz)⟩
          case measure => simp [intOf]; omega
        · rw [placeV_some hp] at hF
          obtain ⟨hjl, d, hd, hdi⟩ := placeI_some hp
          obtain ⟨g, cap', n, rfl, hn, hgb, hgl, hcells⟩ := hown.parts (by omega)
          obtain ⟨d0, d1, d2, d3, d4, d5, d6⟩ := hcells j d hd
          have hjn : j < n := by omega
          have HH := hid (And.intro hp (And.intro hd (And.intro hdi hn)))
          clear hp hd hdi hn hcells hown
          rcases hs : d.same c with _ | _
          · have hE := neqC hs
            have hG := fun op p q W => guardC op p q d c W
            have HE := hid (of_clash HK.out (step_clash HC.out hat.out.1 (by rw [← hat.out.2]; exact HH.out.2.1) HH.out.2.2.1 hs))
            clear hs
            go_wp2_with (go_at_call 12; refine hF.mono ?_; rintro e w' ⟨rfl, rfl⟩)
            go_quiet (fail)
            go_wp2
            go_ret2
            refine ⟨.slice none 0 0, ?_, ?_, Below.drewN' HB.out _⟩
            · rw [HE.out.1]; rfl
            · rw [HE.out.2]; exact Own.nil _ _
          · have hE := neqC hs
            have hG := fun op p q W => guardC op p q d c W
            have HS := hid (step_fine HC.out hat.out.1 (fun j' d' h h' => by
              rw [← hat.out.2, HH.out.1] at h; cases h
              rw [← hat.out.2, HH.out.2.1] at h'; cases h'
              exact C7.same_iff.1 hs))
            clear hs
            go_wp2_with (go_at_call 12; refine hF.mono ?_; rintro e w' ⟨rfl, rfl⟩)
            go_quiet (fail)
            go_wp2_with (go_at_call 25; refine (hP _).mono ?_; rintro e w1 ⟨r, rfl, hown1, hB1⟩)
            go_roundw
            case rel => exact ⟨k + 1, putL out c, by omega, by go_num, hid ⟨HS.out.1, by rw [HS.out.2, hat.out.2]⟩, own_mono hown1 hsz, (Below.drewN' HB.out _).trans (hB1.mono hsz)⟩
            case measure => simp [intOf]; omega
      · have HE : Hid (ofE cs = 0 ∧ ofL cs = out) := hid (by
          have := hat.out
          rw [List.take_of_length_le (by omega)] at this
          rw [this.2]; exact of_fine HK.out this.1)
        obtain ⟨g, cap', n, rfl, hn⟩ := hown.asSlice
        have hn1 : n ≤ 1024 := by omega
        clear hown hn
        go_wp2
        go_ret2
        refine ⟨.slice g n cap', ?_, ?_, hB⟩
        · rw [HE.out.1]; rfl
        · rw [HE.out.2]; exact HO.out
end Go.Proofs.Ytpocfhcdffobhaa
