/- Whole numbers as floats of 64 bits: up to 2^53 all that is done with them is exact. -/
import Derived.Laws.ComplexArith
import Derived.WalkLawsBesides
namespace Go.Proofs.Ytdgllpfccdbdnaa
set_option linter.unusedVariables false

theorem log2_shift {n : Nat} (k : Nat) (h : n ≠ 0) : (n * 2 ^ k).log2 = n.log2 + k := by
  have h2 : 0 < 2 ^ k := Nat.two_pow_pos k
  have hne : n * 2 ^ k ≠ 0 := Nat.mul_ne_zero h (by omega)
  rw [Nat.log2_eq_iff hne]
  have a := Nat.log2_self_le h
  have b := Nat.lt_log2_self (n := n)
  refine ⟨?_, ?_⟩
  · rw [Nat.pow_add]; exact Nat.mul_le_mul_right _ a
  · rw [show n.log2 + k + 1 = (n.log2 + 1) + k by omega, Nat.pow_add]; exact Nat.mul_lt_mul_of_pos_right b h2
/-- The float of a whole number. -/
def FN (n : Nat) : Nat := Ieee.double.nearest false n 0
/-- What stands for a whole number. -/
def Std (d : Ieee.Datum) (n : Nat) : Prop := ∃ k : Nat, d = .number false (n * 2 ^ k) (-(k : Int))

theorem cut_exact (way : Ieee.Toward) (q d : Nat) : way.cut false (q * 2 ^ d) d = q := by
  have hp : 0 < 2 ^ d := Nat.two_pow_pos d
  unfold Ieee.Toward.cut
  by_cases hq : q = 0
  · subst hq
    simp
    cases way <;> simp
    all_goals (try (intro h; exact absurd h (by have := Nat.two_pow_pos (min d ((0 : Nat).log2 + 2)); omega)))
  · have hl := log2_shift d hq
    have hm : min d ((q * 2 ^ d).log2 + 2) = d := by rw [hl]; omega
    simp only [hm, Nat.one_shiftLeft]
    rw [Nat.mul_div_cancel _ hp, Nat.mul_mod_left]
    cases way <;> simp
    all_goals (try (intro h; omega))

theorem near_shift (n k : Nat) (h : n < 9007199254740992) : Ieee.double.nearest false (n * 2 ^ k) (-(k : Int)) = FN n := by
  unfold FN
  by_cases h0 : n = 0
  · subst h0; simp [Ieee.Format.nearest]
  have hl : n.log2 ≤ 52 := by have := (Nat.log2_lt h0 (k := 53)).2 h; omega
  have hp : 0 < 2 ^ k := Nat.two_pow_pos k
  have hne : n * 2 ^ k ≠ 0 := Nat.mul_ne_zero h0 (by omega)
  have key : ∀ k : Nat, n * 2 ^ k ≠ 0 → Ieee.double.nearest false (n * 2 ^ k) (-(k : Int)) = Ieee.double.word false (min ((((n.log2 : Int) - 52) - Ieee.double.leastPlace).toNat * Ieee.double.binade + n * 2 ^ (52 - n.log2)) Ieee.double.infRung) := by
    intro k hne
    unfold Ieee.Format.nearest
    rw [if_neg hne]
    have e1 : max (-(k : Int) + ((n * 2 ^ k).log2 : Nat) - (Ieee.double.fractionBits : Nat)) Ieee.double.leastPlace = (n.log2 : Int) - 52 := by
      rw [log2_shift k h0]
      have : Ieee.double.leastPlace = -1074 := by decide
      rw [this]
      show max (-(k : Int) + ((n.log2 + k : Nat) : Int) - (52 : Nat)) (-1074) = _
      omega
    simp only [e1]
    congr 2
    congr 1
    by_cases hk : k ≤ 52 - n.log2
    · rw [show ((n.log2 : Int) - 52 - -(k : Int)).toNat = 0 by omega, show (-(k : Int) - ((n.log2 : Int) - 52)).toNat = 52 - n.log2 - k by omega, Nat.shiftLeft_eq, Nat.mul_assoc, ← Nat.pow_add, show k + (52 - n.log2 - k) = 52 - n.log2 by omega]
      have := cut_exact .even (n * 2 ^ (52 - n.log2)) 0
      rw [Nat.pow_zero, Nat.mul_one] at this; exact this
    · rw [show (-(k : Int) - ((n.log2 : Int) - 52)).toNat = 0 by omega, show ((n.log2 : Int) - 52 - -(k : Int)).toNat = k - (52 - n.log2) by omega, Nat.shiftLeft_eq, Nat.pow_zero, Nat.mul_one]
      have := cut_exact .even (n * 2 ^ (52 - n.log2)) (k - (52 - n.log2))
      rw [Nat.mul_assoc, ← Nat.pow_add, show 52 - n.log2 + (k - (52 - n.log2)) = k by omega] at this; exact this
  have a := key k hne
  have b := key 0 (by simpa using h0)
  rw [a, ← b]; simp

theorem d_least : Ieee.double.leastPlace = -1074 := by decide
theorem d_bin : Ieee.double.binade = 4503599627370496 := by decide
theorem d_inf : Ieee.double.infRung = 9218868437227405312 := by decide
theorem d_sign : Ieee.double.signWeight = 9223372036854775808 := by decide
theorem FN_word {n L m : Nat} (h : n < 9007199254740992) (h0 : n ≠ 0) (hL : L = n.log2) (hm : m = n * 2 ^ (52 - L)) : FN n = (L + 1022) * 4503599627370496 + m ∧ L ≤ 52 ∧ 4503599627370496 ≤ m ∧ m < 9007199254740992 := by
  have hl : n.log2 ≤ 52 := by have := (Nat.log2_lt h0 (k := 53)).2 h; omega
  have a := Nat.log2_self_le h0
  have b := Nat.lt_log2_self (n := n)
  rw [← hL] at a b hl
  have hp := Nat.two_pow_pos (52 - L)
  have c1 : 2 ^ 52 ≤ n * 2 ^ (52 - L) := by
    have := Nat.mul_le_mul_right (2 ^ (52 - L)) a
    rw [← Nat.pow_add, show L + (52 - L) = 52 by omega] at this; exact this
  have c2 : n * 2 ^ (52 - L) < 2 ^ 53 := by
    have := Nat.mul_lt_mul_of_pos_right b hp
    rw [← Nat.pow_add, show L + 1 + (52 - L) = 53 by omega] at this; exact this
  rw [← hm] at c1 c2
  have e2 : Ieee.Toward.even.cut false (n <<< (0 - ((L : Int) - 52)).toNat) ((L : Int) - 52 - 0).toNat = m := by
    rw [show (0 - ((L : Int) - 52)).toNat = 52 - L by omega, show ((L : Int) - 52 - 0).toNat = 0 by omega, Nat.shiftLeft_eq, ← hm]
    have := cut_exact .even m 0
    rw [Nat.pow_zero, Nat.mul_one] at this; exact this
  refine ⟨?_, hl, by omega, by omega⟩
  have e1 : max ((0 : Int) + (L : Nat) - (Ieee.double.fractionBits : Nat)) Ieee.double.leastPlace = (L : Int) - 52 := by
    rw [d_least]
    show max ((0 : Int) + (L : Int) - (52 : Nat)) (-1074) = _
    omega
  unfold FN Ieee.Format.nearest
  rw [if_neg h0]
  simp only [← hL, e1, e2]
  rw [d_least, d_bin, d_inf]
  rw [show ((L : Int) - 52 - -1074).toNat = L + 1022 by omega]
  unfold Ieee.Format.word
  simp only [Bool.false_eq_true, if_false]
  omega

theorem FN_std {n : Nat} (h : n < 9007199254740992) : Std (Ieee.double.read (FN n)) n := by
  by_cases h0 : n = 0
  · subst h0
    obtain ⟨k, hk⟩ : ∃ k : Nat, k = 1074 := ⟨_, rfl⟩
    refine ⟨k, ?_⟩
    have : FN 0 = 0 := by decide
    rw [this, Nat.zero_mul, hk]; decide
  obtain ⟨L, hL⟩ : ∃ L, L = n.log2 := ⟨_, rfl⟩
  obtain ⟨m, hm⟩ : ∃ m, m = n * 2 ^ (52 - L) := ⟨_, rfl⟩
  obtain ⟨hw, hl, c1, c2⟩ := FN_word h h0 hL hm
  refine ⟨52 - L, ?_⟩
  rw [← hm]
  unfold Ieee.Format.read
  simp only [d_least, d_bin, d_inf, d_sign, hw]
  have hs : ((L + 1022) * 4503599627370496 + m) / 9223372036854775808 = 0 := by omega
  have hr : ((L + 1022) * 4503599627370496 + m) % 9223372036854775808 = (L + 1022) * 4503599627370496 + m := by omega
  simp only [hs, hr]
  rw [if_neg (by omega), if_pos (by omega)]
  have hd : ((L + 1022) * 4503599627370496 + m) / 4503599627370496 = L + 1023 := by omega
  have hmd : ((L + 1022) * 4503599627370496 + m) % 4503599627370496 = m - 4503599627370496 := by omega
  rw [hd, hmd, show 4503599627370496 + (m - 4503599627370496) = m by omega, show (-1074 : Int) + ((L + 1023 - 1 : Nat) : Int) = -((52 - L : Nat) : Int) by omega]
  rfl

theorem Std.write {d : Ieee.Datum} {n : Nat} (h : Std d n) (hn : n < 9007199254740992) : Ieee.double.write d = FN n := by
  obtain ⟨k, rfl⟩ := h
  exact near_shift n k hn
theorem signed_pos (m u : Nat) : Ieee.signed false m u = ((m * 2 ^ u : Nat) : Int) := by unfold Ieee.signed; rw [Nat.shiftLeft_eq]; simp
theorem Std.sum {d e : Ieee.Datum} {a b : Nat} (h : Std d a) (k : Std e b) : ∃ g, d.sum e = some g ∧ Std g (a + b) := by
  obtain ⟨i, rfl⟩ := h
  obtain ⟨j, rfl⟩ := k
  refine ⟨_, rfl, ?_⟩
  obtain ⟨b0, hb0⟩ : ∃ b0 : Nat, b0 = max i j := ⟨_, rfl⟩
  have hmin : min (-(i : Int)) (-(j : Int)) = -(b0 : Int) := by omega
  refine ⟨b0, ?_⟩
  simp only [hmin, signed_pos]
  have e1 : a * 2 ^ i * 2 ^ (-(i : Int) - -(b0 : Int)).toNat = a * 2 ^ b0 := by rw [Nat.mul_assoc, ← Nat.pow_add, show i + (-(i : Int) - -(b0 : Int)).toNat = b0 by omega]
  have e2 : b * 2 ^ j * 2 ^ (-(j : Int) - -(b0 : Int)).toNat = b * 2 ^ b0 := by rw [Nat.mul_assoc, ← Nat.pow_add, show j + (-(j : Int) - -(b0 : Int)).toNat = b0 by omega]
  rw [e1, e2, ← Int.natCast_add, ← Nat.add_mul, Int.natAbs_natCast]
  congr 1
  have : ¬ (((a + b) * 2 ^ b0 : Nat) : Int) < 0 := by omega
  rw [decide_eq_false this]
  split <;> rfl
theorem Std.order {d e : Ieee.Datum} {a b : Nat} (h : Std d a) (k : Std e b) : d.order e = some (compare a b) := by
  obtain ⟨i, rfl⟩ := h
  obtain ⟨j, rfl⟩ := k
  unfold Ieee.Datum.order
  obtain ⟨b0, hb0⟩ : ∃ b0 : Nat, b0 = max i j := ⟨_, rfl⟩
  have hmin : min (-(i : Int)) (-(j : Int)) = -(b0 : Int) := by omega
  simp only [hmin, signed_pos]
  have e1 : a * 2 ^ i * 2 ^ (-(i : Int) - -(b0 : Int)).toNat = a * 2 ^ b0 := by rw [Nat.mul_assoc, ← Nat.pow_add, show i + (-(i : Int) - -(b0 : Int)).toNat = b0 by omega]
  have e2 : b * 2 ^ j * 2 ^ (-(j : Int) - -(b0 : Int)).toNat = b * 2 ^ b0 := by rw [Nat.mul_assoc, ← Nat.pow_add, show j + (-(j : Int) - -(b0 : Int)).toNat = b0 by omega]
  rw [e1, e2]
  have hp : 0 < 2 ^ b0 := Nat.two_pow_pos b0
  congr 1
  rcases Nat.lt_trichotomy a b with hlt | heq | hgt
  · have := Nat.mul_lt_mul_of_pos_right hlt hp
    rw [Nat.compare_eq_lt.2 hlt]; exact Int.compare_eq_lt.2 (by omega)
  · subst heq; rw [Nat.compare_eq_eq.2 rfl]; exact Int.compare_eq_eq.2 rfl
  · have := Nat.mul_lt_mul_of_pos_right hgt hp
    rw [Nat.compare_eq_gt.2 hgt]; exact Int.compare_eq_gt.2 (by omega)
theorem Std.toInt {d : Ieee.Datum} {n : Nat} (h : Std d n) : d.toInt .zero = some (n : Int) := by
  obtain ⟨k, rfl⟩ := h
  unfold Ieee.Datum.toInt Ieee.Datum.integral
  simp only [signed_pos, Nat.shiftLeft_eq]
  rw [show (-(k : Int)).toNat = 0 by omega, show (-(-(k : Int))).toNat = k by omega]
  simp only [Nat.pow_zero, Nat.mul_one, cut_exact]

theorem floatOfInt_nat (n : Nat) : floatOfInt .f64 (n : Int) = FN n := by
  show Ieee.double.nearest (decide ((n : Int) < 0)) (n : Int).natAbs 0 = FN n
  rw [show decide ((n : Int) < 0) = false by simp, Int.natAbs_natCast]; rfl
theorem fn_add {a b : Nat} (h : a + b < 9007199254740992) : floatBits .add .f64 (FN a) (FN b) = some (FN (a + b)) := by
  obtain ⟨g, h1, h2⟩ := (FN_std (n := a) (by omega)).sum (FN_std (n := b) (by omega))
  show ((Ieee.double.read (FN a)).sum (Ieee.double.read (FN b))).map Ieee.double.write = _
  rw [h1, Option.map_some, h2.write h]
theorem fn_order {a b : Nat} (ha : a < 9007199254740992) (hb : b < 9007199254740992) : FloatKind.f64.format.order (FN a) (FN b) = some (compare a b) := (FN_std ha).order (FN_std hb)
theorem fn_int {n : Nat} (h : n < 9007199254740992) : floatToIntVal .f64 (FN n) .i64 = some (n : Int) := by
  unfold floatToIntVal
  show (match (Ieee.double.read (FN n)).toInt .zero with | some n => if IntKind.i64.min ≤ n ∧ n ≤ IntKind.i64.max then some n else none | none => none) = _
  rw [(FN_std h).toInt]
  have : IntKind.i64.min = -9223372036854775808 := by decide
  have h2 : IntKind.i64.max = 9223372036854775807 := by decide
  simp only [this, h2]
  rw [if_pos (by omega)]
theorem fn_most : FN 1099511627776 = 4787326403894837248 := by decide
theorem fn_neg {n : Nat} (h : n < 9007199254740992) : (FloatKind.f64.decode (FN n)).neg = false := by
  obtain ⟨k, hk⟩ := FN_std h
  show (Ieee.double.read (FN n)).neg = false
  rw [hk]; rfl
theorem run_max_fn {P : Program} (ts : Array TypeId) (t : TypeId) (a b : Nat) (ha : a < 9007199254740992) (hb : b < 9007199254740992) (w : World) :
    (Builtin.max_ ts t #[.float .f64 (FN a), .float .f64 (FN b)]).run P w = .ok (.float .f64 (FN (max a b))) w := by
  have ho := fn_order ha hb
  rcases Nat.lt_trichotomy a b with h | h | h
  · rw [Nat.compare_eq_lt.2 h] at ho
    simp [Builtin.max_, Builtin.max2, ho, Nat.max_eq_right (Nat.le_of_lt h)]
  · subst h
    rw [Nat.compare_eq_eq.2 rfl] at ho
    simp [Builtin.max_, Builtin.max2, ho]
  · rw [Nat.compare_eq_gt.2 h] at ho
    simp [Builtin.max_, Builtin.max2, ho, Nat.max_eq_left (Nat.le_of_lt h)]
end Go.Proofs.Ytdgllpfccdbdnaa
