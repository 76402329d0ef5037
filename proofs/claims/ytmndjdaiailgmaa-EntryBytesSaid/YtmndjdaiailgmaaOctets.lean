/- The mathematics of numbers as bytes: seven bits in each, the lowest first; what is put is taken, and its bytes are the only ones. -/
import Derived.Test.YtmndjdaiailgmaaSets
namespace Go.Proofs.Ytmndjdaiailgmaa

/-- A number's bytes. -/
def oneN (n : Nat) : List UInt8 :=
  if h : n < 128 then [UInt8.ofNat n] else UInt8.ofNat (n % 128 + 128) :: oneN (n / 128)
termination_by n
decreasing_by omega
theorem oneN_small {n : Nat} (h : n < 128) : oneN n = [UInt8.ofNat n] := by rw [oneN, dif_pos h]
theorem oneN_big {n : Nat} (h : ¬ n < 128) : oneN n = UInt8.ofNat (n % 128 + 128) :: oneN (n / 128) := by rw [oneN, dif_neg h]

/-- What taking a number comes to. -/
inductive Got where
  | ok (n : Nat) (rest : List UInt8)
  | cut
  | form
/-- The bytes from number i on, n being what came, unit what the next one counts; f more bytes may come. -/
def numGo : (f : Nat) → (i unit n : Nat) → List UInt8 → Got
  | 0, _, _, _, _ => .form
  | _ + 1, _, _, _, [] => .cut
  | f + 1, i, unit, n, b :: bs =>
    if b.toNat < 128 then
      if (0 < i ∧ b.toNat = 0) ∨ 1099511627776 < n + b.toNat * unit then .form else .ok (n + b.toNat * unit) bs
    else numGo f (i + 1) (128 * unit) (n + b.toNat % 128 * unit) bs
def numOf (bs : List UInt8) : Got := numGo 6 0 1 0 bs

theorem toNat_small {n : Nat} (h : n < 256) : (UInt8.ofNat n).toNat = n := by
  rw [UInt8.toNat_ofNat']; omega
/-- What was put is taken. -/
theorem numGo_one : ∀ (f i unit acc n : Nat) (rest : List UInt8), n < 128 ^ (f + 1) → (0 < i → 0 < n) → acc + n * unit ≤ 1099511627776 → numGo (f + 1) i unit acc (oneN n ++ rest) = .ok (acc + n * unit) rest
  | f, i, unit, acc, n, rest, h, hi, hm => by
    by_cases hn : n < 128
    · rw [oneN_small hn, List.singleton_append, numGo, toNat_small (by omega), if_pos hn, if_neg (by omega)]
    · rw [oneN_big hn, List.cons_append, numGo, toNat_small (by omega), if_neg (by omega)]
      have h1 : (n % 128 + 128) % 128 = n % 128 := by omega
      have h2 : acc + n % 128 * unit + n / 128 * (128 * unit) = acc + n * unit := by
        have e1 : n * unit = (128 * (n / 128) + n % 128) * unit := by rw [Nat.div_add_mod]
        rw [e1, Nat.add_mul]
        have e2 : n / 128 * (128 * unit) = 128 * (n / 128) * unit := by rw [← Nat.mul_assoc, Nat.mul_comm (n / 128) 128]
        omega
      match f, h with
      | 0, h => omega
      | f + 1, h => rw [h1, numGo_one f (i + 1) (128 * unit) (acc + n % 128 * unit) (n / 128) rest (by rw [Nat.pow_succ] at h; omega) (by omega) (by omega), h2]
theorem numOf_one {n : Nat} (h : n ≤ 1099511627776) (rest : List UInt8) : numOf (oneN n ++ rest) = .ok n rest := by
  have := numGo_one 5 0 1 0 n rest (by omega) (by omega) (by omega)
  simpa [numOf] using this
/-- What is taken has its bytes ahead of what is left. -/
theorem numGo_ok : ∀ (f i unit acc : Nat) (bs : List UInt8) (m : Nat) (rest : List UInt8), numGo f i unit acc bs = .ok m rest → ∃ n, m = acc + n * unit ∧ bs = oneN n ++ rest ∧ m ≤ 1099511627776 ∧ (0 < i → 0 < n)
  | 0, i, unit, acc, bs, m, rest, h => by simp [numGo] at h
  | f + 1, i, unit, acc, [], m, rest, h => by simp [numGo] at h
  | f + 1, i, unit, acc, b :: bs, m, rest, h => by
    have hb := b.toNat_lt
    rw [numGo] at h
    split at h
    · rename_i hlt
      split at h
      · cases h
      · rename_i hno
        cases h
        refine ⟨b.toNat, rfl, ?_, by omega, fun hi => by omega⟩
        rw [oneN_small hlt, List.singleton_append, UInt8.ofNat_toNat]
    · rename_i hge
      obtain ⟨n, hm, hbs, hle, hpos⟩ := numGo_ok f (i + 1) (128 * unit) _ bs m rest h
      have hp := hpos (by omega)
      refine ⟨b.toNat % 128 + 128 * n, ?_, ?_, hle, fun _ => by omega⟩
      · rw [hm, Nat.add_mul]
        have e2 : n * (128 * unit) = 128 * n * unit := by rw [← Nat.mul_assoc, Nat.mul_comm n 128]
        omega
      · rw [oneN_big (by omega), hbs, List.cons_append]
        rw [show (b.toNat % 128 + 128 * n) / 128 = n by omega, show (b.toNat % 128 + 128 * n) % 128 + 128 = b.toNat by omega, UInt8.ofNat_toNat]
theorem numOf_ok {bs rest : List UInt8} {n : Nat} (h : numOf bs = .ok n rest) : n ≤ 1099511627776 ∧ bs = oneN n ++ rest := by
  obtain ⟨k, hk, hb, hle, _⟩ := numGo_ok 6 0 1 0 bs n rest h
  have : n = k := by omega
  subst this
  exact ⟨hle, hb⟩
theorem oneN_ne (n : Nat) : oneN n ≠ [] := by
  by_cases h : n < 128
  · rw [oneN_small h]; simp
  · rw [oneN_big h]; simp
theorem oneN_len : ∀ (f n : Nat), n < 128 ^ (f + 1) → (oneN n).length ≤ f + 1
  | 0, n, h => by rw [oneN_small (by omega)]; simp
  | f + 1, n, h => by
    by_cases hn : n < 128
    · rw [oneN_small hn]; simp
    · rw [oneN_big hn, List.length_cons]
      have := oneN_len f (n / 128) (by rw [Nat.pow_succ] at h; omega)
      omega
theorem oneN_six {n : Nat} (h : n ≤ 1099511627776) : (oneN n).length ≤ 6 := oneN_len 5 n (by omega)

/-! A reader: the bytes that are left, and what went wrong. -/
abbrev St := List UInt8 × Int
def numS (s : St) : Nat × St :=
  if s.2 = 0 then
    match numOf s.1 with
    | .ok n r => (n, (r, 0))
    | .cut => (0, ([], 3))
    | .form => (0, ([], 2))
  else (0, s)
theorem numS_wrong {s : St} (h : s.2 ≠ 0) : numS s = (0, s) := by unfold numS; rw [if_neg h]
theorem numS_one {n : Nat} (h : n ≤ 1099511627776) (rest : List UInt8) : numS (oneN n ++ rest, 0) = (n, (rest, 0)) := by
  unfold numS; rw [if_pos rfl, numOf_one h]
theorem numS_ok {s : St} (h : (numS s).2.2 = 0) : s.2 = 0 ∧ (numS s).1 ≤ 1099511627776 ∧ s.1 = oneN (numS s).1 ++ (numS s).2.1 := by
  unfold numS at *
  by_cases hs : s.2 = 0
  · rw [if_pos hs] at *
    rcases hn : numOf s.1 with ⟨n, r⟩ | _ | _
    · rw [hn] at h
      exact ⟨hs, numOf_ok hn⟩
    · rw [hn] at h; simp at h
    · rw [hn] at h; simp at h
  · rw [if_neg hs] at h; exact absurd h hs
theorem numS_bad {s : St} (h : (numS s).2.2 ≠ 0) : (numS s).1 = 0 := by
  unfold numS at *
  by_cases hs : s.2 = 0
  · rw [if_pos hs] at *
    rcases hn : numOf s.1 with ⟨n, r⟩ | _ | _
    · rw [hn] at h; simp at h
    · rfl
    · rfl
  · rw [if_neg hs]
end Go.Proofs.Ytmndjdaiailgmaa
