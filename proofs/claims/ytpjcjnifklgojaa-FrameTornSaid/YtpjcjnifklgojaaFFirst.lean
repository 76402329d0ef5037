/- The frame with which a log begins: the program's first; Clone. -/
import Derived.Test.YtpjcjnifklgojaaFScanM
namespace Go.Proofs.Ytpjcjnifklgojaa
set_option linter.unusedVariables false
open Go.RowKit
open Go.Lib (hid)

/-- A part of bytes. -/
theorem SlB.part {w : World} {b o cap n : Nat} {l : List UInt8} (h : SlB w (.slice (some ⟨b, o, none⟩) n cap) l) (i m : Nat) (him : i + m ≤ l.length) : SlB w (.slice (some ⟨b, o + i, none⟩) m (cap - i)) ((l.drop i).take m) := by
  obtain ⟨b', o', cap', a', hv, hn, hcap, ha, hc, hb⟩ := h
  injection hv with e1 e2 e3
  subst e2 e3
  have hlen : ((l.drop i).take m).length = m := by rw [List.length_take, List.length_drop]; omega
  refine ⟨b, o + i, cap - i, Option.some ⟨b, o + i, none⟩, by rw [hlen], (fun e => by cases e), by rw [hlen]; omega, fun _ => rfl, fun j x hx => ?_, fun h0 => ?_⟩
  · have hj : j < m := by have := (List.getElem?_eq_some_iff.1 hx).1; omega
    have h0 : 0 < l.length := by omega
    have e4 := ha h0
    rw [← e1] at e4
    injection e4 with e5
    injection e5 with e6 e7
    subst e6 e7
    rw [List.getElem?_take, if_pos hj, List.getElem?_drop] at hx
    rw [Nat.add_assoc]; exact hc _ x hx
  · have h0 : 0 < l.length := by omega
    have e4 := ha h0
    rw [← e1] at e4
    injection e4 with e5
    injection e5 with e6 e7
    subst e6 e7
    exact hb h0
theorem SlB.head {w : World} {b o cap n : Nat} {l : List UInt8} (h : SlB w (.slice (some ⟨b, o, none⟩) n cap) l) (m : Nat) (hm : m ≤ l.length) : SlB w (.slice (some ⟨b, o, none⟩) m cap) (l.take m) := by
  have := h.part 0 m (by omega)
  rwa [Nat.add_zero, Nat.sub_zero, List.drop_zero] at this
theorem SlB.form {w : World} {v : Value} {l : List UInt8} (h : SlB w v l) (h0 : 0 < l.length) : ∃ b o cap, v = .slice (some ⟨b, o, none⟩) l.length cap ∧ l.length ≤ cap := by
  obtain ⟨b, o, cap, a, rfl, hn, hcap, ha, hc, hb⟩ := h
  exact ⟨b, o, cap, by rw [ha h0], hcap⟩
theorem SlB.any {w : World} {v : Value} {l : List UInt8} (h : SlB w v l) : ∃ a cap, v = .slice a l.length cap ∧ l.length ≤ cap := by
  obtain ⟨b, o, cap, a, rfl, hn, hcap, ha, hc, hb⟩ := h
  exact ⟨a, cap, rfl, hcap⟩

theorem first_none_wrong {l : List UInt8} {m n : Nat} (hl : l.length = m + 2) (hn : n = wholeN (l.take 2)) (hp : ¬ n = 0) (hq : ¬ m < n + 4) (h : firstN l = none) : ¬ wholeN ((l.drop (n + 2)).take 4) = sumN ((l.drop 2).take n) := by
  intro hh
  rw [first_right (by omega) hn.symm (by omega) hh] at h
  cases h
set_option maxHeartbeats 1600000 in
set_option maxRecDepth 100000 in
theorem cFirst_at {l : List UInt8} {w : World} {b o c m n : Nat} (h : SlB w (.slice (some ⟨b, o, none⟩) l.length (c + 2)) l) (hm : l.length = m + 2) (hl : m + 2 ≤ 1000000) (hn : n = wholeN (l.take 2)) (hp : ¬ n = 0) (hq : ¬ m < n + 4) :
    Calls Try.prog 16 #[.slice (some ⟨b, o, none⟩) (m + 2) (c + 2)] w fun e w' => ∃ r, e = .returned (.tuple #[r, .bool (decide (wholeN ((l.drop (n + 2)).take 4) = sumN ((l.drop 2).take n)))]) ∧ (wholeN ((l.drop (n + 2)).take 4) = sumN ((l.drop 2).take n) → SlB w r ((l.drop 2).take n)) ∧ (¬ wholeN ((l.drop (n + 2)).take 4) = sumN ((l.drop 2).take n) → r = .slice none 0 0) ∧ w = w' := by
  have hcap : m + 2 ≤ c + 2 := by obtain ⟨_, _, cap2, a2, hv, _, h2, _⟩ := h; injection hv with _ _ h3; omega
  have hN := cNumberOf (w := w) (h.head 2 (by omega)) (by rw [List.length_take]; omega)
  rw [← hn] at hN
  have h3 : ¬ ((m : Int) + 2 < 2) := by omega
  have hP := h.part 2 n (by omega)
  have hQ := h.part (n + 2) 4 (by omega)
  rw [show c + 2 - 2 = c by omega] at hP
  have hS := cSum hP (by rw [List.length_take, List.length_drop]; omega)
  obtain ⟨d, rfl⟩ : ∃ d, c = n + 4 + d := ⟨c - n - 4, by omega⟩
  rw [show n + 4 + d + 2 - (n + 2) = n + 4 + d - n by omega, show o + (n + 2) = o + 2 + n by omega] at hQ
  have hM := cNumberOf (w := w) hQ (by rw [List.length_take]; omega)
  obtain ⟨X, hX⟩ : ∃ X, X = wholeN ((l.drop (n + 2)).take 4) := ⟨_, rfl⟩
  obtain ⟨S, hSS⟩ : ∃ S, S = sumN ((l.drop 2).take n) := ⟨_, rfl⟩
  rw [← hX] at hM ⊢
  rw [← hSS] at hS ⊢
  have HN := hid hN
  have HS := hid hS
  have HM := hid hM
  have HP := hid hP
  have h5 : ¬ (n : Int) = 0 := by omega
  have h6 : ¬ (m : Int) < (n : Int) + 4 := by omega
  obtain ⟨e, rfl⟩ : ∃ e, m = n + 4 + e := ⟨m - n - 4, by omega⟩
  have hnb : n ≤ 1000000 := by omega
  have heb : e ≤ 1000000 := by omega
  have hb1 : ((n : Int) == 0) = false := by simp; omega
  have hb2 : decide ((n : Int) + 4 + (e : Int) < (n : Int) + 4) = false := decide_eq_false (by omega)
  clear hX hSS hN hS hM hP hQ h hm hn hl hcap hq hp h6
  by_cases hXS : X = S
  all_goals (
    have hXS2 : (X : Int) = (S : Int) ↔ X = S := by omega
    go_enter Try.func16, Try.ntmps16
    go_wp2_with fail
    go_at_call 22
    refine HN.out.mono ?_
    rintro e w' ⟨rfl, rfl⟩
    clear HN
    go_wp2_with fail
    go_at_call 22
    refine HM.out.mono ?_
    rintro e w' ⟨rfl, rfl⟩
    clear HM
    go_wp2_with fail
    go_at_call 12
    refine HS.out.mono ?_
    rintro e w' ⟨rfl, rfl⟩
    clear HS
    go_wp2_with fail
    go_ret2
    first
      | exact ⟨_, by rw [decide_eq_true hXS]; rfl, fun _ => HP.out, fun hh => absurd hXS hh, rfl⟩
      | exact ⟨_, by rw [decide_eq_false hXS]; rfl, fun hh => absurd hh hXS, fun _ => rfl, rfl⟩)
set_option maxHeartbeats 1600000 in
set_option maxRecDepth 100000 in
theorem cFirst_none {v : Value} {l : List UInt8} {w : World} (h : SlB w v l) (hl : l.length ≤ 1000000) (hf : firstN l = none) : Calls Try.prog 16 #[v] w fun e w' => e = .returned (.tuple #[.slice none 0 0, .bool false]) ∧ w = w' := by
  by_cases h2 : l.length < 2
  · obtain ⟨a, cap, rfl, _⟩ := h.any
    have h3 : (l.length : Int) < 2 := by omega
    clear h hf
    go_enter Try.func16, Try.ntmps16
    go_wp2
    go_ret2
    exact ⟨rfl, rfl⟩
  · obtain ⟨b, o, cap, rfl, hcap⟩ := h.form (by omega)
    have HS := hid h
    have h3 : ¬ (l.length : Int) < 2 := by omega
    have hN := cNumberOf (w := w) (HS.out.head 2 (by omega)) (by rw [List.length_take]; omega)
    have hw := whole_lt (l.take 2)
    rw [List.length_take, Nat.min_eq_left (by omega), show (256 : Nat) ^ 2 = 65536 from by decide] at hw
    obtain ⟨n, hn⟩ : ∃ n, n = wholeN (l.take 2) := ⟨_, rfl⟩
    rw [← hn] at hN hw
    have HN := hid hN
    have HNN := hid hn
    have HF := hid hf
    clear h hN hf hn
    obtain ⟨m, hm⟩ : ∃ m, l.length = m + 2 := ⟨l.length - 2, by omega⟩
    rw [hm] at h2 h3 hcap hl ⊢
    obtain ⟨c, rfl⟩ : ∃ c, cap = c + 2 := ⟨cap - 2, by omega⟩
    have HL := hid hm
    have hc0 : c = 0 ∨ ¬ c = 0 := by omega
    clear hm
    by_cases hp : n = 0
    · subst hp
      rcases hc0 with rfl | hc0
      all_goals (
        go_enter Try.func16, Try.ntmps16
        go_wp2_with (go_at_call 22; refine HN.out.mono ?_; rintro e w' ⟨rfl, rfl⟩)
        go_ret2
        exact ⟨rfl, rfl⟩)
    · have h5 : ¬ (n : Int) = 0 := by omega
      by_cases hq : m < n + 4
      · have h6 : (m : Int) < (n : Int) + 4 := by omega
        rcases hc0 with rfl | hc0
        all_goals (
          go_enter Try.func16, Try.ntmps16
          go_wp2_with (go_at_call 22; refine HN.out.mono ?_; rintro e w' ⟨rfl, rfl⟩)
          go_ret2
          exact ⟨rfl, rfl⟩)
      · have hg := first_none_wrong HL.out HNN.out hp hq HF.out
        refine (cFirst_at HS.out HL.out hl HNN.out hp hq).mono ?_
        rintro e w' ⟨r, rfl, _, hr, rfl⟩
        rw [hr hg, decide_eq_false hg]
        exact ⟨rfl, rfl⟩

theorem cFirst_some {v : Value} {l : List UInt8} {w : World} {n : Nat} (h : SlB w v l) (hl : l.length ≤ 1000000) (hf : firstN l = some n) : Calls Try.prog 16 #[v] w fun e w' => ∃ r, e = .returned (.tuple #[r, .bool true]) ∧ SlB w r ((l.drop 2).take n) ∧ w = w' := by
  obtain ⟨h1, h2, h3, h4, h5⟩ := first_some hf
  obtain ⟨b, o, cap, rfl, hcap⟩ := h.form (by omega)
  obtain ⟨m, hm⟩ : ∃ m, l.length = m + 2 := ⟨l.length - 2, by omega⟩
  obtain ⟨c, rfl⟩ : ∃ c, cap = c + 2 := ⟨cap - 2, by omega⟩
  have hc := cFirst_at h hm (by omega) h4.symm (by omega) (by omega)
  rw [hm]
  refine hc.mono ?_
  rintro e w' ⟨r, rfl, hr, _, rfl⟩
  rw [decide_eq_true h5]
  exact ⟨r, rfl, hr h5, rfl⟩

set_option maxHeartbeats 600000 in
set_option maxRecDepth 100000 in
theorem cClone {v : Value} {l : List UInt8} {w : World} (h : SlB w v l) (hl : l.length ≤ 1000000) : Calls Try.prog 17 #[v] w fun e w' => ∃ r, e = .returned r ∧ OwnB w' w.heap.size r l ∧ Below w.heap.size w w' := by
  obtain ⟨i0, hi, hz0, hz1, hz2⟩ := info_parts Try.infoB
  have hq : ∀ (w : World) (a : Option Addr) (n c n' c' : Nat), (binOp .eql 22 (.slice a n c) (.slice none n' c')).run Try.prog w = .ok (.bool a.isNone) w := fun w a n c n' c' => Lib.run_eql_slice_nil w _ _ a n c n' c' Try.underlying22
  rcases h.src with ⟨rfl, rfl⟩ | ⟨ad, cap, rfl, hc, hb⟩
  · go_enter Try.func17, Try.ntmps17
    go_wp2
    go_ret
    exact ⟨_, rfl, OwnB.nil _ _, Below.refl _ _⟩
  · have hown := OwnB.made w
    have hnew : ∀ (j : Nat) u, (octs l)[j]? = Option.some u → (w.alloc (.cells #[] 5)).cell? (ad.add j) = Option.some u := fun j u hu => by
      have h1 := hc j u hu
      have h2 := World.block_lt_of_cell? w _ h1
      exact Lib.cell?_alloc_some _ h1
    have HN := hid hnew
    clear hnew hc
    go_enter Try.func17, Try.ntmps17
    go_wp2_with (at_builtin; refine wpList_append_own _ rfl _ _ 22 rfl w.heap.size 5 i0 _ 1 1 Try.underlying22 hi hz0 hz1 hz2 rfl (by decide) _ _ _ rfl hown ad l.length cap (octs l) rfl ?c0 ?c1 ?c2 ?c3 ?c4 ?c5 ?_)
    case c0 => rw [octs_len, Nat.mul_one]
    case c1 => exact HN.out
    case c2 => exact octs_one _
    case c3 => unfold maxLen; simp only [List.length_nil]; omega
    case c4 => simp only [List.length_nil]; omega
    case c5 => simp
    intro v' w1 hown' hgrow _
    have R := OwnB.grows (a := []) ((Below.refl _ w).alloc (Nat.le_refl _) _) (by simp) (fun k hk => by cases hk; exact Nat.le_refl _) hown' (by simp) hgrow
    rw [List.nil_append] at R
    have HR := hid R
    clear hown' hgrow hown R
    go_wp2
    go_ret
    exact ⟨_, rfl, HR.out.1, HR.out.2⟩

end Go.Proofs.Ytpjcjnifklgojaa
