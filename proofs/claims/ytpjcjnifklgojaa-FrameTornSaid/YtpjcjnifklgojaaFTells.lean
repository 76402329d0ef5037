/- The walk of the law FrameTells. -/
import Derived.Test.YtpjcjnifklgojaaFAlive
namespace Go.Proofs.Ytpjcjnifklgojaa
set_option linter.unusedVariables false
open Go.RowKit
open Go.Lib (hid)

theorem cWrap {v : Value} {l : List UInt8} {w : World} (h : SlB w v l) (hl : l.length ≤ 65535) : Calls Try.prog 7 #[v] w fun e w' => ∃ r, e = .returned (.tuple #[r, .int .i64 (wrapE l)]) ∧ OwnB w' w.heap.size r (wrapB l) ∧ Below w.heap.size w w' := by
  by_cases h1 : 1 ≤ l.length
  · rw [(wrap_yes h1 hl).1, (wrap_yes h1 hl).2]; exact cWrap_yes h h1 hl
  · rw [(wrap_no (fun hh => h1 hh.1)).1, (wrap_no (fun hh => h1 hh.1)).2]
    refine (cWrap_no h (by omega) (fun hh => h1 hh.1)).mono ?_
    rintro e w' ⟨rfl, rfl⟩
    exact ⟨_, rfl, OwnB.nil _ _, Below.refl _ _⟩
theorem rWrap {v : Value} {l : List UInt8} {w : World} (h : SlB w v l) (hl : l.length ≤ 65535) : Calls Try.prog 8 #[v] w fun e w' => ∃ r, e = .returned (.tuple #[r, .int .i64 (wrapE l)]) ∧ OwnB w' w.heap.size r (wrapB l) ∧ Below w.heap.size w w' := by
  by_cases h1 : 1 ≤ l.length
  · rw [(wrap_yes h1 hl).1, (wrap_yes h1 hl).2]; exact rWrap_yes h h1 hl
  · rw [(wrap_no (fun hh => h1 hh.1)).1, (wrap_no (fun hh => h1 hh.1)).2]
    refine (rWrap_no h (by omega) (fun hh => h1 hh.1)).mono ?_
    rintro e w' ⟨rfl, rfl⟩
    exact ⟨_, rfl, OwnB.nil _ _, Below.refl _ _⟩
theorem scan_few : ∀ (m : Nat) (log : List UInt8), log.length ≤ m → (scanN log).1.length ≤ log.length
  | 0, log, h => by rw [scan_stop (first_short (by omega))]; simp
  | m + 1, log, h => by
    cases hf : firstN log with
    | none => rw [scan_stop hf]; simp
    | some n =>
      obtain ⟨_, _, h3, _, _⟩ := first_some hf
      have := scan_few m (log.drop (n + 6)) (by rw [List.length_drop]; omega)
      rw [scan_next hf, List.length_cons]
      rw [List.length_drop] at this
      omega

set_option maxHeartbeats 1600000 in
set_option maxRecDepth 100000 in
theorem wTells_long {va vb : Value} {l lg : List UInt8} {w : World} (ha : SlB w va l) (hb : SlB w vb lg) (h : 1500 < l.length ∨ 1500 < lg.length) (hl : l.length ≤ 9223372036854775807) (hl2 : lg.length ≤ 9223372036854775807) : Calls Try.prog 3 #[va, vb] w fun e w' => e = .returned (.bool true) ∧ Below w.heap.size w w' := by
  obtain ⟨a, cap, rfl, _⟩ := ha.any
  obtain ⟨a', cap', rfl, _⟩ := hb.any
  obtain ⟨n, hn⟩ : ∃ n, n = l.length := ⟨_, rfl⟩
  obtain ⟨m, hm⟩ : ∃ m, m = lg.length := ⟨_, rfl⟩
  rw [← hn] at h hl ⊢
  rw [← hm] at h hl2 ⊢
  clear ha hb hn hm
  by_cases h1 : 1500 < n
  · have h2 : (1500 : Int) < (n : Int) := by omega
    go_enter Try.func3, Try.ntmps3
    go_wp2_with (go_at_call 6; refine (oAlive _).mono ?_; rintro e w' ⟨rfl, hB⟩)
    go_ret
    exact ⟨rfl, hB⟩
  · have h2 : ¬ (1500 : Int) < (n : Int) := by omega
    have h3 : (1500 : Int) < (m : Int) := by omega
    go_enter Try.func3, Try.ntmps3
    go_wp2_with (go_at_call 6; refine (oAlive _).mono ?_; rintro e w' ⟨rfl, hB⟩)
    go_ret
    exact ⟨rfl, hB⟩

set_option maxHeartbeats 1600000 in
set_option maxRecDepth 100000 in
theorem wTells {va vb : Value} {l lg : List UInt8} {w : World} (ha : SlB w va l) (hb : SlB w vb lg) (h1 : l.length ≤ 1500) (h2 : lg.length ≤ 1500) : Calls Try.prog 3 #[va, vb] w fun e w' => e = .returned (.bool true) ∧ Below w.heap.size w w' := by
  have HA := hid ha
  have HB := hid hb
  obtain ⟨a, cap, rfl, _⟩ := ha.any
  obtain ⟨a', cap', rfl, _⟩ := hb.any
  have H1 := hid h1
  have H2 := hid h2
  have h3 : decide ((1500 : Int) < (l.length : Int)) = false := decide_eq_false (by omega)
  have h4 : decide ((1500 : Int) < (lg.length : Int)) = false := decide_eq_false (by omega)
  have h5 : ¬ (1500 : Int) < (l.length : Int) := by omega
  have h6 : ¬ (1500 : Int) < (lg.length : Int) := by omega
  have hw0 := Below.refl w.heap.size w
  clear ha hb
  go_enter Try.func3, Try.ntmps3
  go_wp2_with fail
  go_at_call 7
  refine (cWrap HA.out (by omega)).mono ?_
  rintro e w1 ⟨r1, rfl, ho1, hB1⟩
  have HB1 := hid hB1
  have HS1 := hid ho1.slb
  obtain ⟨g1, c1, n1, rfl, hn1⟩ := ho1.asSlice
  clear ho1 hB1 hn1
  go_wp2_with fail
  go_at_call 8
  refine (rWrap (HA.out.on HB1.out) (by have := H1.out; omega)).mono ?_
  rintro e w2 ⟨r2, rfl, ho2, hB2⟩
  have HB2 := hid (HB1.out.trans (hB2.mono HB1.out.size))
  have HS12 := hid (HS1.out.on hB2)
  have HS2 := hid ho2.slb
  obtain ⟨g2, c2, n2, rfl, hn2⟩ := ho2.asSlice
  clear ho2 hB2 hn2
  go_wp2_with fail
  go_at_call 9
  refine (cScan (HB.out.on HB2.out) (by have := H2.out; omega)).mono ?_
  rintro e w3 ⟨r3, ps, rfl, ho3, hm3, hB3⟩
  have HB3 := hid (HB2.out.trans (hB3.mono HB2.out.size))
  have HS13 := hid (HS12.out.on hB3)
  have HS23 := hid (HS2.out.on hB3)
  have HL3 := hid ho3.sl
  rw [hm3] at HL3
  obtain ⟨g3, c3, n3, rfl, hn3⟩ := ho3.asSlice
  clear ho3 hB3 hn3 hm3
  go_wp2_with fail
  go_at_call 10
  refine (rScan (HB.out.on HB3.out) (by have := H2.out; omega)).mono ?_
  rintro e w4 ⟨r4, qs, rfl, ho4, hm4, hB4⟩
  have HB4 := hid (HB3.out.trans (hB4.mono HB3.out.size))
  have HS14 := hid (HS13.out.on hB4)
  have HS24 := hid (HS23.out.on hB4)
  have HL34 := hid (HL3.out.on hB4)
  have HL4 := hid ho4.sl
  rw [hm4] at HL4
  obtain ⟨g4, c4, n4, rfl, hn4⟩ := ho4.asSlice
  clear ho4 hB4 hn4 hm4
  have hfew := scan_few _ lg (Nat.le_refl _)
  go_wp2_with fail
  go_at_call 11
  refine (rSame HL34.out HL4.out (by have := H2.out; omega) (by have := H2.out; omega)).mono ?_
  rintro e w5 ⟨rfl, hB5⟩
  rw [beq_self_eq_true]
  have HB5 := hid (HB4.out.trans (hB5.mono HB4.out.size))
  have HS15 := hid (HS14.out.on hB5)
  have HS25 := hid (HS24.out.on hB5)
  clear hB5 hfew
  go_wp2_with fail
  go_at_call 6
  refine (oAlive _).mono ?_
  rintro e w6 ⟨rfl, hB6⟩
  have HB6 := hid (HB5.out.trans (hB6.mono HB5.out.size))
  have HS16 := hid (HS15.out.on hB6)
  have HS26 := hid (HS25.out.on hB6)
  clear hB6
  go_wp2_with fail
  go_at_call 12
  refine (cSum (HA.out.on HB6.out) (by have := H1.out; omega)).mono ?_
  rintro e w7 ⟨rfl, rfl⟩
  go_wp2_with fail
  go_at_call 13
  refine (rSum (HA.out.on HB6.out) (by have := H1.out; omega)).mono ?_
  rintro e w7 ⟨rfl, hB7⟩
  have HB7 := hid (HB6.out.trans (hB7.mono HB6.out.size))
  have hv1 := convB (HS16.out.on hB7)
  have hv2 := convB (HS26.out.on hB7)
  clear hB7
  go_wp2_with fail
  go_ret
  exact ⟨rfl, HB7.out⟩
end Go.Proofs.Ytpjcjnifklgojaa
