/- The document's reader: fail, Num. -/
import Derived.Test.YtmndjdaiailgmaaRd
namespace Go.Proofs.Ytmndjdaiailgmaa
set_option linter.unusedVariables false
open Go.RowKit
open Go.Lib (hid)

set_option maxHeartbeats 600000 in
set_option maxRecDepth 100000 in
theorem rFail {F : Nat → Prop} {p : Nat} {s : St} {w : World} (h : Rd 87 F w p s) (e : Int) : Calls Try.prog 88 #[.pointer (some ⟨p, 0, none⟩), .int .i64 e] w fun x w' => x = .returned (.tuple #[]) ∧ Rd 87 F w' p ([], e) ∧ w.grownBy w' (some p) := by
  obtain ⟨v, hp, hs, _, hf⟩ := h
  have HP := hid hp
  have hlt : p < w.heap.size := (Array.getElem?_eq_some_iff.1 hp).1
  have c0 : w.cell? ⟨p, 0, none⟩ = some v := by simp [World.cell?, hp]
  have c1 : w.cell? ⟨p, 1, none⟩ = some (.int .i64 s.2) := by simp [World.cell?, hp]
  have f0 : w.frozen? ⟨p, 0, none⟩ = false := by simp [World.frozen?, hp]
  have f1 : w.frozen? ⟨p, 1, none⟩ = false := by simp [World.frozen?, hp]
  clear hp hs
  go_enter Try.func88, Try.ntmps88
  go_wp2
  go_end0
  exact ⟨rfl, ⟨_, set1 (set0 HP.out), SlB.nil _, (fun k hk => by simp [Value.ownBlock] at hk), hf⟩, grownSet2 _ _ _ _⟩

set_option maxHeartbeats 2000000 in
set_option maxRecDepth 100000 in
theorem rNum {F : Nat → Prop} {p : Nat} {s : St} {w : World} (h : Rd 87 F w p s) : Calls Try.prog 80 #[.pointer (some ⟨p, 0, none⟩)] w fun x w' => x = .returned (.int .i64 (numS s).1) ∧ Rd 87 F w' p (numS s).2 ∧ w.grownBy w' (some p) := by
  have HR := hid h
  have HF := hid (fun e => rFail h e)
  obtain ⟨l, e⟩ := s
  obtain ⟨v, hp, hs, hvF, hvf⟩ := h
  have hv := And.intro hvF hvf
  clear hvF hvf
  have HP := hid hp
  have hlt : p < w.heap.size := (Array.getElem?_eq_some_iff.1 hp).1
  have c0 : w.cell? ⟨p, 0, none⟩ = some v := by simp [World.cell?, hp]
  have c1 : w.cell? ⟨p, 1, none⟩ = some (.int .i64 e) := by simp [World.cell?, hp]
  have f0 : w.frozen? ⟨p, 0, none⟩ = false := by simp [World.frozen?, hp]
  have f1 : w.frozen? ⟨p, 1, none⟩ = false := by simp [World.frozen?, hp]
  clear hp
  by_cases he : e = 0
  · subst he
    obtain ⟨b, o, cap, a, rfl, hn, hc, ha, hcl, hb⟩ := hs
    have HC := hid hcl
    have HV := hid hv
    clear hcl hv
    dsimp only at *
    go_enter Try.func80, Try.ntmps80
    go_wp2
    go_loopw [3, 4, 5] (fun n u i wr => ∃ (k acc U : Nat), k ≤ 6 ∧ k ≤ l.length ∧ n = .int .i64 acc ∧ u = .int .i64 U ∧ i = .int .i64 k ∧ wr = w ∧ Hid (numOf l = numGo (6 - k) k U acc (l.drop k)) ∧ Hid (U = 128 ^ k) ∧ acc < U) (fun _ _ i _ => 6 - (intOf i).toNat)
    case atStart => exact ⟨0, 0, 1, by omega, by omega, rfl, rfl, rfl, rfl, rfl, rfl, by omega⟩
    case round =>
      obtain ⟨k, acc, U, hk, hkl, rfl, rfl, rfl, rfl, hat, hU, hacc⟩ := hrel
      have hUk : U ≤ 4398046511104 ∧ 1 ≤ U ∧ (k < 6 → U ≤ 34359738368) := by
        have hU := hU.out
        rcases (by omega : k = 0 ∨ k = 1 ∨ k = 2 ∨ k = 3 ∨ k = 4 ∨ k = 5 ∨ k = 6) with rfl | rfl | rfl | rfl | rfl | rfl | rfl <;> subst hU <;> simp
      obtain ⟨hU1, hU2, hU3⟩ := hUk
      by_cases h6 : k < 6
      · have hU4 := hU3 h6
        obtain ⟨f, hf⟩ : ∃ f, 6 - k = f + 1 := ⟨5 - k, by omega⟩
        by_cases hkn : k < l.length
        · obtain ⟨x, hx⟩ : ∃ x, l[k]? = some x := ⟨l[k], List.getElem?_eq_getElem hkn⟩
          obtain rfl := ha (by omega)
          have d0 := HC.out k x hx
          have hat2 := hid (by have := hat.out; rw [drop_at hx, hf] at this; exact this)
          clear hx
          have hxl := x.toNat_lt
          obtain ⟨m, hm⟩ : ∃ m, m = x.toNat % 128 * U := ⟨_, rfl⟩
          have hm1 : m ≤ 127 * U := by rw [hm]; exact Nat.mul_le_mul_right _ (by omega)
          obtain ⟨ki, hki⟩ : ∃ ki : Int, ki = k := ⟨_, rfl⟩
          obtain ⟨ui, hui⟩ : ∃ ui : Int, ui = U := ⟨_, rfl⟩
          obtain ⟨kk, hkk⟩ : ∃ kk, kk = k + 1 := ⟨_, rfl⟩
          obtain ⟨UU, hUU⟩ : ∃ UU, UU = 128 * U := ⟨_, rfl⟩
          have HUU : Hid (UU = 128 ^ kk) := hid (by rw [hUU, hkk, hU.out, Nat.pow_succ]; omega)
          rw [← hki, ← hui]
          have hU' := hU.out
          have HL := hid hkn
          by_cases hx : x.toNat < 128
          · obtain ⟨aa, haa⟩ : ∃ aa, aa = acc + x.toNat * U := ⟨_, rfl⟩
            have hI := fun (y : Int) (W : World) => rIn40 y W
            by_cases hq : 1099511627776 < aa
            · have HE := hid (numS_form (s := (l, 0)) rfl (hat2.out.trans (numGo_form hx (.inr (by omega)))))
              have HI := hid (in40_false.2 (by omega : ¬ (0 ≤ (aa : Int) ∧ (aa : Int) ≤ 1099511627776)))
              clear hU hU3 hf hat hat2 hm hm1 hUU hkk HUU
              rcases (by omega : k = 0 ∨ k = 1 ∨ k = 2 ∨ k = 3 ∨ k = 4 ∨ k = 5) with rfl | rfl | rfl | rfl | rfl | rfl <;> (
                simp at hU' hki
                subst hU'
                simp at hui
                subst hki hui
                try simp only [Nat.add_zero] at d0
                try (exfalso; omega))
              go_wp2_with (first | (go_at_call 76; refine (hI _ _).mono ?_; rintro e w' ⟨rfl, rfl⟩; rw [show in40 _ = false from (congrArg in40 (by omega)).trans HI.out]) | (go_at_call 88; refine (HF.out 2).mono ?_; rintro e w' ⟨rfl, hR, hg⟩))
              go_ret
              rw [HE.out]
              exact ⟨rfl, hR, hg⟩
            · have HI := hid (in40_true.2 (by omega : (0 ≤ (aa : Int) ∧ (aa : Int) ≤ 1099511627776)))
              by_cases hz : 0 < k ∧ x.toNat = 0
              · have HE := hid (numS_form (s := (l, 0)) rfl (hat2.out.trans (numGo_form hx (.inl hz))))
                obtain ⟨hz1, hz2⟩ := hz
                clear hU hU3 hf hat hat2 hm hm1 hUU hkk HUU
                rcases (by omega : k = 0 ∨ k = 1 ∨ k = 2 ∨ k = 3 ∨ k = 4 ∨ k = 5) with rfl | rfl | rfl | rfl | rfl | rfl <;> (
                  simp at hU' hki
                  subst hU'
                  simp at hui
                  subst hki hui
                  try simp only [Nat.add_zero] at d0
                  try (exfalso; omega))
                all_goals (
                  go_wp2_with (first | (go_at_call 76; refine (hI _ _).mono ?_; rintro e w' ⟨rfl, rfl⟩; rw [show in40 _ = true from (congrArg in40 (by omega)).trans HI.out]) | (go_at_call 88; refine (HF.out 2).mono ?_; rintro e w' ⟨rfl, hR, hg⟩))
                  go_ret
                  rw [HE.out]
                  exact ⟨rfl, hR, hg⟩)
              · have HE := hid (numS_got (s := (l, 0)) rfl (hat2.out.trans (numGo_lo hx (by omega))))
                have hbl := hb (by omega)
                have hbq : Hid (b ≠ p) := hid (by intro hh; subst hh; exact HV.out.2 (HV.out.1 _ rfl))
                have hbp : Hid (¬ some b = some p) := hid (by simpa using hbq.out)
                have HD := hid (fun (w0 : World) => SlB.drop (w := w0) (b := b) (o := o) (cap := cap) (l := l) kk (by omega) (by omega))
                clear hU hU3 hf hat hat2 hm hm1 hUU HUU
                rcases (by omega : k = 0 ∨ k = 1 ∨ k = 2 ∨ k = 3 ∨ k = 4 ∨ k = 5) with rfl | rfl | rfl | rfl | rfl | rfl <;> (
                  simp at hU' hki
                  subst hU'
                  simp at hui
                  subst hki hui
                  try simp only [Nat.add_zero] at d0
                  try (exfalso; omega))
                all_goals (
                  go_wp2_with (first | (go_at_call 76; refine (hI _ _).mono ?_; rintro e w' ⟨rfl, rfl⟩; rw [show in40 _ = true from (congrArg in40 (by omega)).trans HI.out]) | (go_at_call 88; exfalso; have hL := HL.out; first | omega | (simp_all; done)))
                  all_goals (
                    go_ret
                    subst hkk
                    rw [HE.out]
                    refine ⟨retI (by (try dsimp only); omega), ⟨_, set0 HP.out, ?_, fun k hk => HV.out.1 k hk, HV.out.2⟩, grownSet _ _ _⟩
                    first
                      | exact SlB.nothing (by rw [List.length_drop]; omega) (by omega) (by omega)
                      | (refine SlB.of (HD.out _ (fun j y hj => (cellSet hbl hbq.out).trans (HC.out j y hj)) hc (by simpa [World.setCell] using hbl)) ?_
                         first | rfl | (congr 3 <;> omega))))
          · obtain ⟨aa, haa⟩ : ∃ aa, aa = acc + x.toNat % 128 * U := ⟨_, rfl⟩
            have hat3 : Hid (numOf l = numGo (6 - kk) kk UU aa (l.drop kk)) := hid (by rw [hat2.out, numGo_hi hx, ← hUU, ← haa, ← hkk, show 6 - kk = f by omega])
            clear hU hU3 hf hat hat2 hm hm1
            rcases (by omega : k = 0 ∨ k = 1 ∨ k = 2 ∨ k = 3 ∨ k = 4 ∨ k = 5) with rfl | rfl | rfl | rfl | rfl | rfl <;> (
              simp at hU' hki
              subst hU'
              simp at hui
              subst hki hui
              try simp only [Nat.add_zero] at d0
              try (exfalso; omega))
            all_goals (
              go_wp2_with (go_at_call 88; exfalso; have hL := HL.out; first | omega | (simp_all; done))
              go_roundw
              case rel => exact ⟨kk, aa, UU, by omega, by omega, by congr 1; omega, by congr 1; omega, by congr 1; omega, trivial, hat3, HUU, by omega⟩
              case measure => simp [intOf]; try omega)
        · have HE := hid (numS_cut (s := (l, 0)) rfl (by rw [hat.out, hf, List.drop_eq_nil_of_le (by omega)]; rfl))
          go_wp2_with (go_at_call 88; refine (HF.out 3).mono ?_; rintro e w' ⟨rfl, hR, hg⟩)
          go_ret
          rw [HE.out]
          exact ⟨rfl, hR, hg⟩
      · obtain rfl : k = 6 := by omega
        have HE := hid (numS_form (s := (l, 0)) rfl (by rw [hat.out]; rfl))
        go_wp2_with (go_at_call 88; refine (HF.out 2).mono ?_; rintro e w' ⟨rfl, hR, hg⟩)
        go_ret
        rw [HE.out]
        exact ⟨rfl, hR, hg⟩
  · have HE := hid (numS_wrong (s := (l, e)) he)
    go_enter Try.func80, Try.ntmps80
    go_wp2
    go_ret
    rw [HE.out]
    exact ⟨rfl, HR.out, grownRefl _ _⟩
end Go.Proofs.Ytmndjdaiailgmaa
