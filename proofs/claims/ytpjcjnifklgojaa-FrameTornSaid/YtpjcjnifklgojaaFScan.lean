/- What is in a log's frames: the program's Scan. -/
import Derived.Test.YtpjcjnifklgojaaFLists
import Derived.ScopeJumps
namespace Go.Proofs.Ytpjcjnifklgojaa
set_option linter.unusedVariables false
open Go.RowKit
open Go.Lib (hid)

def slotK : Value → Nat | .int _ q => q.toNat | _ => 0
def JScan (w : World) (v : Value) (l : List UInt8) (a' : Act) (w' : World) : Prop :=
  ∃ (k : Nat) (ps : List (Sv × List UInt8)) (u4 u5 u6 u7 u8 u9 u10 u11 u12 u13 u14 u15 u16 u17 u18 u19 u20 u21 u22 u23 u24 u25 u26 u27 u28 : Value), k ≤ l.length ∧ ps.length ≤ k ∧ Hid (Behind l (ps.map fun p => p.2) k) ∧ OwnL w' w.heap.size u4 ps ∧ Below w.heap.size w w' ∧
    a' = { tmps := #[v, undef, .slice none 0 0, .int .i64 0, u4, u5, u6, u7, u8, u9, u10, u11, u12, u13, u14, u15, u16, u17, u18, u19, u20, u21, u22, u23, u24, u25, u26, u27, u28], defers := [] } ∧ u5 = .int .i64 (k : Int)

set_option maxHeartbeats 1600000 in
set_option maxRecDepth 100000 in
theorem cScan {v : Value} {l : List UInt8} {w : World} (h : SlB w v l) (hl : l.length ≤ 1000000) : Calls Try.prog 9 #[v] w fun e w' => ∃ r ps, e = .returned (.tuple #[r, .int .i64 (scanN l).2]) ∧ OwnL w' w.heap.size r ps ∧ ps.map (fun p => p.2) = (scanN l).1 ∧ Below w.heap.size w w' := by
  have HS := hid h
  clear h
  go_enter Try.func9, Try.ntmps9
  go_wp2
  refine wp_scope_jumps 0 (JScan w v l) (fun a' _ => l.length - slotK (a'.tmps.getD 5 undef)) rfl ?_ ?_
  · go_wp2
    go_step3
    have hB : Below w.heap.size w w := Below.refl _ _
    have hown : OwnL w w.heap.size (.slice none 0 0) [] := OwnL.nil _ _
    have hbe : Hid (Behind l (([] : List (Sv × List UInt8)).map fun p => p.2) 0) := hid (Behind.start l)
    have hk : 0 ≤ l.length := Nat.zero_le _
    have hpk : ([] : List (Sv × List UInt8)).length ≤ 0 := Nat.le_refl _
    have hsz := hB.size
    have HB := hid hB
    have HO := hid hown
    obtain ⟨v', hv, hs⟩ := slice_from (HS.out.on hB) hk
    have hlen : (l.drop 0).length ≤ 1000000 := by rw [List.length_drop]; omega
    have hv : ∀ W : World, (Instr.slice 22 v (some (.int .i64 0)) none none).run Try.prog W = .ok v' W := hv
    rcases hf : firstN (l.drop 0) with _ | n
    · have hc := cFirst_none hs hlen hf
      have HE := hid (hbe.out.stop hf)
      clear hs hlen hf hB hown
      go_wp2_with (go_at_call 16; refine hc.mono ?_; rintro e w2 ⟨rfl, rfl⟩)
      simp only [Exit.jump]
      go_ret2
      rw [HE.out]
      exact ⟨_, _, rfl, HO.out, rfl, HB.out⟩
    · obtain ⟨h1, h2, h3, _, _⟩ := first_some hf
      rw [List.length_drop] at h3
      have hc := cFirst_some hs hlen hf
      have HE := hid (hbe.out.next hf)
      have hil : (((l.drop 0).drop 2).take n).length = n := by rw [List.length_take, List.length_drop, List.length_drop]; omega
      obtain ⟨b, hb⟩ : ∃ b, b = ((l.drop 0).drop 2).take n := ⟨_, rfl⟩
      rw [← hb] at hc hil HE
      have HIL := hid hil
      obtain ⟨i0, hi, hz0, hz1, hz2⟩ := info_parts Try.infoS
      clear hs hlen hf hbe hb hil
      go_wp2_with fail
      go_at_call 16
      refine hc.mono ?_
      rintro e w2 ⟨r, rfl, hr, rfl⟩
      obtain ⟨ra, rc, rfl, _⟩ := hr.any
      have HR := hid hr
      rw [HIL.out] at HR ⊢
      clear hr hc
      go_wp2_with fail
      go_at_call 17
      refine (cClone HR.out (by rw [HIL.out]; omega)).mono ?_
      rintro e w3 ⟨r3, rfl, ho3, hB3⟩
      obtain ⟨s3, rfl, ho4⟩ := ho3.sv
      obtain ⟨sa, sn, sc⟩ := s3
      have HO3 := hid (own_monoB ho4 hsz)
      have hoL := HO.out.on hB3
      have hB4 := HB.out.trans (hB3.mono hsz)
      have HB4 := hid hB4
      have HOL := hid hoL
      have hsz4 := hB4.size
      clear ho3 ho4 hB3 hB hB4 hown hoL
      go_wp2_with (at_builtin; refine wpList_append_own _ rfl _ _ 27 rfl w.heap.size 22 i0 _ 1 24 Try.underlying27 hi hz0 hz1 hz2 rfl (by decide) _ _ _ rfl (HOL.out.alloc _).1 ⟨w3.heap.size, 0, none⟩ 1 1 [.slice sa sn sc] rfl rfl (new_one rfl) ?c2 ?c3 ?c4 ?c5 ?_)
      case c2 => intro u hu; simp at hu; subst hu; rfl
      case c3 => unfold maxLen; simp
      case c4 => simp
      case c5 => first | omega | (simp; omega)
      intro v4 w4 hown' hgrow _
      have R := OwnL.more (s := ⟨sa, sn, sc⟩) (HOL.out.alloc _) (World.ownsRow.alloc HO3.out _) (HB4.out.alloc hsz4 _) (by simp; omega) hown' hgrow
      have HRR := hid R
      clear hown' hgrow R
      go_wp2_with fail
      go_step3
      refine ⟨rfl, 0 + n + 6, _, _, _, _, _, _, _, _, _, _, _, _, _, _, _, _, _, _, _, _, _, _, _, _, _, _, by omega, by simp only [List.length_append, List.length_cons, List.length_nil]; omega, hid (by rw [List.map_append]; exact HE.out), HRR.out.1, HRR.out.2, rfl, ?_⟩
      exact congrArg (Value.int .i64) (by omega)
  · rintro a' w' ⟨k, ps, u4, u5, u6, u7, u8, u9, u10, u11, u12, u13, u14, u15, u16, u17, u18, u19, u20, u21, u22, u23, u24, u25, u26, u27, u28, hk, hpk, hbe, hown, hB, rfl, rfl⟩
    have hsz := hB.size
    have HB := hid hB
    have HO := hid hown
    obtain ⟨v', hv, hs⟩ := slice_from (HS.out.on hB) hk
    have hlen : (l.drop k).length ≤ 1000000 := by rw [List.length_drop]; omega
    rcases hf : firstN (l.drop k) with _ | n
    · have hc := cFirst_none hs hlen hf
      have HE := hid (hbe.out.stop hf)
      clear hs hlen hf hB
      obtain ⟨g4, c4, n4, rfl, hn4⟩ := hown.asSlice
      clear hown hn4
      go_wp2_with (go_at_call 16; refine hc.mono ?_; rintro e w2 ⟨rfl, rfl⟩)
      simp only [Exit.jump]
      go_ret2
      rw [HE.out]
      exact ⟨_, _, rfl, HO.out, rfl, HB.out⟩
    · obtain ⟨h1, h2, h3, _, _⟩ := first_some hf
      rw [List.length_drop] at h3
      have hc := cFirst_some hs hlen hf
      have HE := hid (hbe.out.next hf)
      have hil : (((l.drop k).drop 2).take n).length = n := by rw [List.length_take, List.length_drop, List.length_drop]; omega
      obtain ⟨b, hb⟩ : ∃ b, b = ((l.drop k).drop 2).take n := ⟨_, rfl⟩
      rw [← hb] at hc hil HE
      have HIL := hid hil
      obtain ⟨i0, hi, hz0, hz1, hz2⟩ := info_parts Try.infoS
      clear hs hlen hf hbe hb hil
      go_wp2_with fail
      go_at_call 16
      refine hc.mono ?_
      rintro e w2 ⟨r, rfl, hr, rfl⟩
      obtain ⟨ra, rc, rfl, _⟩ := hr.any
      have HR := hid hr
      rw [HIL.out] at HR ⊢
      clear hr hc
      go_wp2_with fail
      go_at_call 17
      refine (cClone HR.out (by rw [HIL.out]; omega)).mono ?_
      rintro e w3 ⟨r3, rfl, ho3, hB3⟩
      obtain ⟨s3, rfl, ho4⟩ := ho3.sv
      obtain ⟨sa, sn, sc⟩ := s3
      have HO3 := hid (own_monoB ho4 hsz)
      have hoL := HO.out.on hB3
      have hB4 := HB.out.trans (hB3.mono hsz)
      have HB4 := hid hB4
      have HOL := hid hoL
      have hsz4 := hB4.size
      clear ho3 ho4 hB3 hB hB4 hown hoL
      go_wp2_with (at_builtin; refine wpList_append_own _ rfl _ _ 27 rfl w.heap.size 22 i0 _ 1 24 Try.underlying27 hi hz0 hz1 hz2 rfl (by decide) _ _ _ rfl (HOL.out.alloc _).1 ⟨w3.heap.size, 0, none⟩ 1 1 [.slice sa sn sc] rfl rfl (new_one rfl) ?c2 ?c3 ?c4 ?c5 ?_)
      case c2 => intro u hu; simp at hu; subst hu; rfl
      case c3 => unfold maxLen; omega
      case c4 => omega
      case c5 => first | omega | (simp; omega)
      intro v4 w4 hown' hgrow _
      have R := OwnL.more (s := ⟨sa, sn, sc⟩) (HOL.out.alloc _) (World.ownsRow.alloc HO3.out _) (HB4.out.alloc hsz4 _) (by simp; omega) hown' hgrow
      have HRR := hid R
      clear hown' hgrow R
      go_wp2_with fail
      go_step3
      refine ⟨rfl, ⟨k + n + 6, _, _, _, _, _, _, _, _, _, _, _, _, _, _, _, _, _, _, _, _, _, _, _, _, _, _, by omega, by simp only [List.length_append, List.length_cons, List.length_nil]; omega, hid (by rw [List.map_append]; exact HE.out), HRR.out.1, HRR.out.2, rfl, ?_⟩, ?_⟩
      · exact congrArg (Value.int .i64) (by omega)
      · simp [slotK]; omega
end Go.Proofs.Ytpjcjnifklgojaa
