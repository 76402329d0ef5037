/- How many of the lowest bits are set: the call 'ones' of the law returns it; and what any two sets have in common. -/
import Derived.Test.YtjpojlbldimckaaStamp
import Derived.Laws.BitsAllLaws
import Derived.WalkKit
import Derived.ProofKit
import Derived.OpenShut
import Derived.Lib.Hide
namespace Go.Proofs.Ytjpojlbldimckaa.Ones
open Go.RowKit

def onesN (x : Nat) : Nat → Nat
  | 0 => 0
  | n + 1 => onesN x n + x / 2 ^ n % 2

theorem ones_le (x n : Nat) : onesN x n ≤ n := by
  induction n with
  | zero => simp [onesN]
  | succ n ih => unfold onesN; omega

theorem ones_zero (n : Nat) : onesN 0 n = 0 := by
  induction n with
  | zero => rfl
  | succ n ih => unfold onesN; simp [ih]

theorem bit_and (x y i : Nat) : (x &&& y) / 2 ^ i % 2 + 1 ≥ x / 2 ^ i % 2 + y / 2 ^ i % 2 := by
  rw [← Nat.toNat_testBit, ← Nat.toNat_testBit, ← Nat.toNat_testBit, Nat.testBit_and]
  cases x.testBit i <;> cases y.testBit i <;> decide

theorem ones_and (x y n : Nat) : onesN (x &&& y) n + n ≥ onesN x n + onesN y n := by
  induction n with
  | zero => simp [onesN]
  | succ n ih =>
    have := bit_and x y n
    unfold onesN
    omega

def onesI (x n : Int) : Int := (onesN x.toNat n.toNat : Nat)

theorem onesI_bd (x n : Int) (h : 0 ≤ n) : 0 ≤ onesI x n ∧ onesI x n ≤ n := by
  have := ones_le x.toNat n.toNat
  unfold onesI
  omega

theorem and_bd (a b : Int) : 0 ≤ bits .and .u16 a b ∧ bits .and .u16 a b ≤ 65535 := Go.bounds_u16 (wf_bits .and .u16 a b)

theorem onesI_and (a b n : Int) (ha : 0 ≤ a) (ha' : a ≤ 65535) (hb : 0 ≤ b) (hb' : b ≤ 65535) (hn : 0 ≤ n) : onesI a n + onesI b n ≤ onesI (bits .and .u16 a b) n + n := by
  have h := ones_and a.toNat b.toNat n.toNat
  have e := u16_and a b ha (by omega) hb (by omega)
  rw [e]
  unfold onesI
  rw [Int.toNat_natCast]
  omega

theorem onesI_zero (n : Int) : onesI 0 n = 0 := by unfold onesI; simp [ones_zero]

theorem ones_succ (x : Int) (k : Nat) (h0 : 0 ≤ x) : onesN x.toNat (k + 1) = onesN x.toNat k + (x / 2 ^ k % 2).toNat := by
  obtain ⟨X, rfl⟩ := Int.eq_ofNat_of_zero_le h0
  have e : ((X : Int) / 2 ^ k % 2) = ((X / 2 ^ k % 2 : Nat) : Int) := by push_cast; rfl
  rw [e, Int.toNat_natCast, Int.toNat_natCast]
  rfl

theorem ones_any (x n : Int) (w : World) (h0 : 0 ≤ x) (_h1 : x ≤ 65535) (h2 : 0 ≤ n) (h3 : n ≤ 16) : Calls Try.prog 31 #[.int .u16 x, .int .i64 n] w fun e w' => e = .returned (.int .i64 (onesI x n)) ∧ w = w' := by
  go_enter Try.func31, Try.ntmps31
  go_wp2
  go_loop [5, 6] (fun s i => ∃ k : Nat, k ≤ n ∧ i = .int .i64 k ∧ s = .int .i64 (onesN x.toNat k)) (fun _ i => (n - intOf i).toNat)
  case atStart => exact ⟨0, by omega, rfl, rfl⟩
  case round =>
    obtain ⟨k, hk, rfl, rfl⟩ := hrel
    have hle := ones_le x.toNat k
    by_cases hlt : (k : Int) < n
    · have hd0 : 0 ≤ x / 2 ^ k := Int.ediv_nonneg h0 (Int.pow_nonneg (by decide))
      have hd : 0 ≤ x / 2 ^ k % 2 ∧ x / 2 ^ k % 2 ≤ 1 := by omega
      obtain ⟨hd1, hd2⟩ := hd
      have hs := ones_succ x k h0
      have Hs := Lib.hid hs
      clear hs
      go_wp2
      go_round
      case rel => exact ⟨k + 1, by omega, by go_num, by rw [Hs.out]; congr 1; push_cast; omega⟩
      case measure => simp [intOf]; omega
    · go_wp2
      go_ret
      exact ⟨ret_int (by unfold onesI; congr 2; omega), rfl⟩
end Go.Proofs.Ytjpojlbldimckaa.Ones
