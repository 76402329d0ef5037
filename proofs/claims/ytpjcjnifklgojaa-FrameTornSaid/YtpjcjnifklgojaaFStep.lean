/- The program's step and sum. -/
import Derived.Test.YtpjcjnifklgojaaFSum
import Derived.Laws.BitsAllLaws
namespace Go.Proofs.Ytpjcjnifklgojaa
set_option linter.unusedVariables false
open Go.RowKit
open Go.Lib (hid)

set_option maxRecDepth 100000 in
theorem cStep {x : Nat} (h : x < 4294967296) (w : World) : Calls Try.prog 18 #[.int .u32 x] w fun e w' => e = .returned (.int .u32 (sN x)) ∧ w = w' := by
  have h2 : (x : Int) < 4294967296 := by omega
  have q1 : bits BinOp.xor IntKind.u32 ((x : Int) / 2) 3988292384 = ((x / 2 ^^^ 3988292384 : Nat) : Int) := by
    rw [u32_xor _ _ (by omega) (by omega) (by omega) (by omega)]
    congr 1
  have q0 : bits BinOp.xor IntKind.u32 ((x : Int) / 2) 0 = ((x / 2 : Nat) : Int) := by
    rw [u32_xor _ _ (by omega) (by omega) (by omega) (by omega)]
    simp
    omega
  have q2 : bits BinOp.and IntKind.u32 (x : Int) 1 = ((x % 2 : Nat) : Int) := by
    rw [u32_and _ _ (by omega) (by omega) (by omega) (by omega)]
    simp
  have q3 : bits BinOp.and IntKind.u32 3988292384 4294967295 = 3988292384 := by decide
  have q4 : bits BinOp.and IntKind.u32 3988292384 0 = 0 := by decide
  by_cases hp : x % 2 = 1
  · have he : sN x = x / 2 ^^^ 3988292384 := by unfold sN; rw [if_pos hp]
    rw [hp] at q2
    rw [he]
    go_enter Try.func18, Try.ntmps18
    go_wp2
    go_ret
    exact ⟨rfl, rfl⟩
  · have he : sN x = x / 2 := by unfold sN; rw [if_neg hp]
    rw [show x % 2 = 0 by omega] at q2
    rw [he]
    go_enter Try.func18, Try.ntmps18
    go_wp2
    go_ret
    exact ⟨congrArg (fun z => Ending.returned (Value.int IntKind.u32 z)) (by first | omega | rw [q0]), rfl⟩

theorem turned {r : Nat} (h : r < 4294967296) : bits BinOp.xor IntKind.u32 IntKind.u32.max (r : Int) = ((4294967295 - r : Nat) : Int) := by
  rw [show IntKind.u32.max = ((4294967295 : Nat) : Int) from by decide, u32_xor_nat _ _ (by omega) h]
  have h1 := @BitVec.toNat_not 32 (BitVec.ofNat 32 r)
  rw [← BitVec.allOnes_xor, BitVec.toNat_xor, BitVec.toNat_allOnes, BitVec.toNat_ofNat, Nat.mod_eq_of_lt (by omega)] at h1
  congr 1

set_option maxHeartbeats 1000000 in
set_option maxRecDepth 100000 in
theorem cSum {v : Value} {l : List UInt8} {w : World} (h : SlB w v l) (hl : l.length ≤ 1000000) : Calls Try.prog 12 #[v] w fun e w' => e = .returned (.int .u32 (sumN l)) ∧ w = w' := by
  obtain ⟨b, o, cap, a, rfl, hn, hcap, ha, hc, hb⟩ := h
  have HF := hid (sumN_lt l)
  go_enter Try.func12, Try.ntmps12
  go_wp2
  go_loopw [3, 8] (fun s i wr => ∃ k : Nat, k ≤ l.length ∧ i = .int .i64 k ∧ s = .int .u32 ((l.take k).foldl byteN 4294967295 : Nat) ∧ wr = w) (fun _ i _ => l.length - (intOf i).toNat)
  case atStart => exact ⟨0, Nat.zero_le _, rfl, rfl, rfl⟩
  case round =>
    obtain ⟨k, hk, rfl, rfl, rfl⟩ := hrel
    by_cases hlt : k < l.length
    · obtain rfl := ha (by omega)
      obtain ⟨x, hx⟩ : ∃ x, l[k]? = some x := ⟨l[k], List.getElem?_eq_getElem hlt⟩
      have c0 := hc k x hx
      have hbw := hb (by omega)
      have hlt2 : (k : Int) < (l.length : Int) := by omega
      have hnx : (l.take (k + 1)).foldl byteN 4294967295 = byteN ((l.take k).foldl byteN 4294967295) x := by rw [takeN_snoc hx, List.foldl_append]; rfl
      have hF := fold_lt (l.take k) (x := 4294967295) (by omega)
      obtain ⟨r, hr⟩ : ∃ r, r = (l.take k).foldl byteN 4294967295 := ⟨_, rfl⟩
      rw [← hr] at hnx hF ⊢
      have hxl := x.toNat_lt
      have HX := hid hnx
      have q1 : bits BinOp.xor IntKind.u32 (r : Int) (x.toNat : Int) = ((r ^^^ x.toNat : Nat) : Int) := u32_xor_nat _ _ hF (by omega)
      have hF2 : r ^^^ x.toNat < 4294967296 := xor_lt hF (by omega)
      have hxl2 : (x.toNat : Int) < 4294967296 := by omega
      have HC := hid hc
      clear hnx hr hx hc
      go_wp2
      go_loopw [3, 16] (fun s i w2 => ∃ m : Nat, m ≤ 8 ∧ i = .int .i64 m ∧ s = .int .u32 (sNs m (r ^^^ x.toNat) : Nat) ∧ w2 = wr) (fun _ i _ => 8 - (intOf i).toNat)
      case atStart => exact ⟨0, Nat.zero_le _, rfl, rfl, rfl⟩
      case round =>
        obtain ⟨m, hm, rfl, rfl, rfl⟩ := hrel
        by_cases hm8 : m < 8
        · have hs := cStep (sNs_lt m hF2)
          have e1 := hid (sNs_succ m (r ^^^ x.toNat))
          have hm2 : (m : Int) < 8 := by omega
          obtain ⟨z, hz⟩ : ∃ z, z = sNs m (r ^^^ x.toNat) := ⟨_, rfl⟩
          rw [← hz] at hs e1 ⊢
          clear hz
          go_wp2_with (go_at_call 18; refine (hs _).mono ?_; rintro e w' ⟨rfl, rfl⟩)
          go_roundw
          case rel => exact ⟨m + 1, by omega, by go_num, by rw [e1.out], trivial⟩
          case measure => simp [RowKit.intOf]; omega
        · obtain rfl : m = 8 := by omega
          go_wp2
          go_roundw
          case rel => exact ⟨k + 1, by omega, by go_num, by rw [HX.out]; rfl, trivial⟩
          case measure => simp [RowKit.intOf]; omega
    · have hlt2 : ¬ (k : Int) < (l.length : Int) := by omega
      have hall : l.take k = l := List.take_of_length_le (by omega)
      rw [hall]
      have hF := foldN_lt l
      obtain ⟨r, hr⟩ : ∃ r, r = foldN l := ⟨_, rfl⟩
      have hs : sumN l = 4294967295 - r := by unfold sumN; rw [hr]
      rw [show l.foldl byteN 4294967295 = r from hr.symm]
      rw [← hr] at hF
      have HS := hid hs
      clear hall hs hr
      have ht := turned hF
      go_wp2
      go_ret
      rw [HS.out]
      exact ⟨rfl, rfl⟩
end Go.Proofs.Ytpjcjnifklgojaa
