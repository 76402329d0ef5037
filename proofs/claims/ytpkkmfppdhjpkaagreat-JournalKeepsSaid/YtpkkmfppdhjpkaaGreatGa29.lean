import Derived.Test.YtpkkmfppdhjpkaaGreatGa28
import Derived.Laws.BitsAllLaws
import Derived.Test.YtpkkmfppdhjpkaaGreatGa19
import Derived.Lib.AppendZerosOnto
import Derived.Lib.AppendZeros
import Derived.Test.YtpkkmfppdhjpkaaGreatGa20
/- Numbers as bytes, the lowest first: the program's lowestFirst and numberOf. -/
namespace Go.Proofs.YtpkkmfppdhjpkaaGreat
set_option linter.unusedVariables false
open Go.RowKit
open Go.Lib (hid)

/-- A number as so many bytes, the lowest first. -/
def lowB : Nat → Nat → List UInt8
  | _, 0 => []
  | n, k + 1 => UInt8.ofNat (n % 256) :: lowB (n / 256) k
theorem lowB_len : ∀ (n k : Nat), (lowB n k).length = k
  | _, 0 => rfl
  | n, k + 1 => by rw [lowB, List.length_cons, lowB_len]
theorem lowB_snoc : ∀ (n k : Nat), lowB n (k + 1) = lowB n k ++ [UInt8.ofNat (n / 256 ^ k % 256)]
  | n, 0 => by simp [lowB]
  | n, k + 1 => by
    rw [lowB, lowB_snoc (n / 256) k, lowB, List.cons_append, Nat.div_div_eq_div_mul, Nat.pow_succ, Nat.mul_comm 256]
theorem whole_low : ∀ (k n : Nat), n < 256 ^ k → wholeN (lowB n k) = n
  | 0, n, h => by simp at h; subst h; rfl
  | k + 1, n, h => by
    rw [lowB, wholeN, whole_low k (n / 256) (by rw [Nat.pow_succ] at h; omega), toNat_small (by omega)]; omega
theorem low_whole : ∀ (l : List UInt8), lowB (wholeN l) l.length = l
  | [] => rfl
  | b :: l => by
    have hb := b.toNat_lt
    rw [wholeN, List.length_cons, lowB, show (b.toNat + 256 * wholeN l) % 256 = b.toNat by omega, show (b.toNat + 256 * wholeN l) / 256 = wholeN l by omega, low_whole l, UInt8.ofNat_toNat]
theorem whole_lt : ∀ (l : List UInt8), wholeN l < 256 ^ l.length
  | [] => by simp [wholeN]
  | b :: l => by
    have := whole_lt l
    have hb := b.toNat_lt
    rw [wholeN, List.length_cons, Nat.pow_succ]; omega
theorem whole_snoc : ∀ (l : List UInt8) (x : UInt8), wholeN (l ++ [x]) = wholeN l + x.toNat * 256 ^ l.length
  | [], x => by simp [wholeN]
  | b :: l, x => by
    rw [List.cons_append, wholeN, whole_snoc l x, wholeN, List.length_cons, Nat.pow_succ, Nat.mul_add, Nat.add_assoc]
    congr 2
    rw [Nat.mul_comm (256 ^ l.length) 256, ← Nat.mul_assoc, ← Nat.mul_assoc, Nat.mul_comm 256]
theorem or_add {a b : Nat} (k : Nat) (h : a < 2 ^ k) : a ||| b * 2 ^ k = a + b * 2 ^ k := by
  have := Nat.two_pow_add_eq_or_of_lt h b
  rw [Nat.mul_comm b, Nat.or_comm, ← this, Nat.add_comm]

set_option maxHeartbeats 1600000 in
set_option maxRecDepth 100000 in
theorem cLow {n m : Nat} {w : World} (hn : n < 4294967296) (hm : m ≤ 4) : Calls Tryz.prog 75 #[.int .u32 n, .int .i64 m] w fun e w' => ∃ r, e = .returned r ∧ OwnB w' w.heap.size r (lowB n m) ∧ Below w.heap.size w w' := by
  obtain ⟨i0, hi, hz0, hz1, hz2⟩ := info_parts Tryz.infoB
  go_enter Tryz.func75, Tryz.ntmps75
  go_wp2
  go_loopw [5, 8] (fun u i wr => ∃ k : Nat, k ≤ m ∧ i = .int .i64 k ∧ OwnB wr w.heap.size u (lowB n k) ∧ Below w.heap.size w wr) (fun _ i _ => m - (intOf i).toNat)
  case atStart => exact ⟨0, Nat.zero_le _, rfl, OwnB.nil _ _, Below.refl _ _⟩
  case round =>
    obtain ⟨k, hk, rfl, hown, hB⟩ := hrel
    have hsz := hB.size
    have HB := hid hB
    have HO := hid hown
    by_cases hlt : k < m
    · have hlt2 : (k : Int) < (m : Int) := by omega
      obtain ⟨r, hr⟩ : ∃ r, r = n / 256 ^ k % 256 := ⟨_, rfl⟩
      have HR := hid hr
      have hr256 : r < 256 := by omega
      have HS := hid (lowB_snoc n k)
      have hl := hid (lowB_len n k)
      have hpw : (256 : Nat) ^ 0 = 1 ∧ (256 : Nat) ^ 1 = 256 ∧ (256 : Nat) ^ 2 = 65536 ∧ (256 : Nat) ^ 3 = 16777216 := by decide
      clear hB hr
      rcases (by omega : k = 0 ∨ k = 1 ∨ k = 2 ∨ k = 3) with rfl | rfl | rfl | rfl
      · have hr2 : (n : Int) % 256 = r := by have := HR.out; rw [hpw.1] at this; omega
        clear hpw
        go_wp2_with (at_builtin; refine wpList_append_own _ rfl _ _ 63 rfl w.heap.size 5 i0 _ 1 1 Tryz.underlying63 hi hz0 hz1 hz2 rfl (by decide) _ _ _ rfl (hown.alloc _) ⟨wr.heap.size, 0, none⟩ 1 1 [.int .u8 r] rfl rfl (new_one rfl) ?c2 ?c3 ?c4 ?c5 ?_)
        case c2 => intro u hu; simp at hu; subst hu; rfl
        case c3 => unfold maxLen; have := hl.out; omega
        case c4 => have := hl.out; omega
        case c5 => first | omega | (simp; omega)
        intro v' w2 hown' hgrow _
        have R := own_one (by omega) (HB.out.alloc hsz _) (by simp; omega) (fun k hk => (HO.out.lt k hk).1) hown' hgrow
        rw [HR.out, ← HS.out] at R
        clear hown' hgrow hown
        go_wp2
        go_roundw
        case rel => exact ⟨1, by omega, by go_num, R.1, R.2⟩
        case measure => simp [RowKit.intOf]; omega
      · have hr2 : (n : Int) / 256 % 256 = r := by have := HR.out; rw [hpw.2.1] at this; omega
        clear hpw
        go_wp2_with (at_builtin; refine wpList_append_own _ rfl _ _ 63 rfl w.heap.size 5 i0 _ 1 1 Tryz.underlying63 hi hz0 hz1 hz2 rfl (by decide) _ _ _ rfl (hown.alloc _) ⟨wr.heap.size, 0, none⟩ 1 1 [.int .u8 r] rfl rfl (new_one rfl) ?c2 ?c3 ?c4 ?c5 ?_)
        case c2 => intro u hu; simp at hu; subst hu; rfl
        case c3 => unfold maxLen; have := hl.out; omega
        case c4 => have := hl.out; omega
        case c5 => first | omega | (simp; omega)
        intro v' w2 hown' hgrow _
        have R := own_one (by omega) (HB.out.alloc hsz _) (by simp; omega) (fun k hk => (HO.out.lt k hk).1) hown' hgrow
        rw [HR.out, ← HS.out] at R
        clear hown' hgrow hown
        go_wp2
        go_roundw
        case rel => exact ⟨2, by omega, by go_num, R.1, R.2⟩
        case measure => simp [RowKit.intOf]; omega
      · have hr2 : (n : Int) / 65536 % 256 = r := by have := HR.out; rw [hpw.2.2.1] at this; omega
        clear hpw
        go_wp2_with (at_builtin; refine wpList_append_own _ rfl _ _ 63 rfl w.heap.size 5 i0 _ 1 1 Tryz.underlying63 hi hz0 hz1 hz2 rfl (by decide) _ _ _ rfl (hown.alloc _) ⟨wr.heap.size, 0, none⟩ 1 1 [.int .u8 r] rfl rfl (new_one rfl) ?c2 ?c3 ?c4 ?c5 ?_)
        case c2 => intro u hu; simp at hu; subst hu; rfl
        case c3 => unfold maxLen; have := hl.out; omega
        case c4 => have := hl.out; omega
        case c5 => first | omega | (simp; omega)
        intro v' w2 hown' hgrow _
        have R := own_one (by omega) (HB.out.alloc hsz _) (by simp; omega) (fun k hk => (HO.out.lt k hk).1) hown' hgrow
        rw [HR.out, ← HS.out] at R
        clear hown' hgrow hown
        go_wp2
        go_roundw
        case rel => exact ⟨3, by omega, by go_num, R.1, R.2⟩
        case measure => simp [RowKit.intOf]; omega
      · have hr2 : (n : Int) / 16777216 = r := by have := HR.out; rw [hpw.2.2.2] at this; omega
        clear hpw
        go_wp2_with (at_builtin; refine wpList_append_own _ rfl _ _ 63 rfl w.heap.size 5 i0 _ 1 1 Tryz.underlying63 hi hz0 hz1 hz2 rfl (by decide) _ _ _ rfl (hown.alloc _) ⟨wr.heap.size, 0, none⟩ 1 1 [.int .u8 r] rfl rfl (new_one rfl) ?c2 ?c3 ?c4 ?c5 ?_)
        case c2 => intro u hu; simp at hu; subst hu; rfl
        case c3 => unfold maxLen; have := hl.out; omega
        case c4 => have := hl.out; omega
        case c5 => first | omega | (simp; omega)
        intro v' w2 hown' hgrow _
        have R := own_one (by omega) (HB.out.alloc hsz _) (by simp; omega) (fun k hk => (HO.out.lt k hk).1) hown' hgrow
        rw [HR.out, ← HS.out] at R
        clear hown' hgrow hown
        go_wp2
        go_roundw
        case rel => exact ⟨4, by omega, by go_num, R.1, R.2⟩
        case measure => simp [RowKit.intOf]; omega
    · have hlt2 : ¬ (k : Int) < (m : Int) := by omega
      obtain rfl : k = m := by omega
      obtain ⟨g, cap', n', rfl, hnn⟩ := hown.asSlice
      clear hown hB hnn
      go_wp2
      go_ret
      exact ⟨_, rfl, HO.out, HB.out⟩

set_option maxHeartbeats 1600000 in
set_option maxRecDepth 100000 in
theorem cNumberOf {v : Value} {l : List UInt8} {w : World} (h : SlB w v l) (hl : l.length ≤ 4) : Calls Tryz.prog 64 #[v] w fun e w' => e = .returned (.int .u32 (wholeN l)) ∧ w = w' := by
  obtain ⟨b, o, cap, a, rfl, hn, hcap, ha, hc, hb⟩ := h
  have HC := hid hc
  clear hc
  go_enter Tryz.func64, Tryz.ntmps64
  go_wp2
  go_loopw [3, 8] (fun s i wr => ∃ k : Nat, k ≤ l.length ∧ i = .int .i64 k ∧ s = .int .u32 (wholeN (l.take k) : Nat) ∧ wr = w) (fun _ i _ => l.length - (intOf i).toNat)
  case atStart => exact ⟨0, Nat.zero_le _, rfl, rfl, rfl⟩
  case round =>
    obtain ⟨k, hk, rfl, rfl, rfl⟩ := hrel
    by_cases hlt : k < l.length
    · obtain rfl := ha (by omega)
      obtain ⟨x, hx⟩ : ∃ x, l[k]? = some x := ⟨l[k], List.getElem?_eq_getElem hlt⟩
      have c0 := HC.out k x hx
      have hbw := hb (by omega)
      have hlt2 : (k : Int) < (l.length : Int) := by omega
      have hxl := x.toNat_lt
      have hlk : (l.take k).length = k := by rw [List.length_take]; omega
      have hnx : wholeN (l.take (k + 1)) = wholeN (l.take k) + x.toNat * 256 ^ k := by rw [takeN_snoc hx, whole_snoc, hlk]
      have hr := whole_lt (l.take k)
      rw [hlk] at hr
      obtain ⟨r, hrr⟩ : ∃ r, r = wholeN (l.take k) := ⟨_, rfl⟩
      rw [← hrr] at hnx hr ⊢
      have HX := hid hnx
      have hpw : (256 : Nat) ^ 0 = 1 ∧ (256 : Nat) ^ 1 = 256 ∧ (256 : Nat) ^ 2 = 65536 ∧ (256 : Nat) ^ 3 = 16777216 := by decide
      clear hnx hrr hx hlk
      rcases (by omega : k = 0 ∨ k = 1 ∨ k = 2 ∨ k = 3) with rfl | rfl | rfl | rfl
      · have hr0 : r = 0 := by rw [hpw.1] at hr; omega
        subst hr0
        have q1 : bits BinOp.or IntKind.u32 0 (x.toNat : Int) = (x.toNat : Int) := by
          have := u32_or_nat 0 x.toNat (by omega) (by omega)
          simpa using this
        have HP := hid hpw
        clear hpw
        rw [Nat.add_zero] at c0
        go_wp2
        go_roundw
        case rel => exact ⟨1, by omega, by go_num, by rw [HX.out, HP.out.1]; go_num, trivial⟩
        case measure => simp [RowKit.intOf]; omega
      · have hr0 : r < 256 := by rw [hpw.2.1] at hr; exact hr
        have q1 : bits BinOp.or IntKind.u32 (r : Int) ((x.toNat : Int) * 256) = ((r + x.toNat * 256 : Nat) : Int) := by
          have h1 := u32_or_nat r (x.toNat * 256) (by omega) (by omega)
          have h2 := or_add (b := x.toNat) 8 hr0
          rw [show (2 : Nat) ^ 8 = 256 from by decide] at h2
          rw [h2] at h1
          exact h1
        have HP := hid hpw
        clear hpw hr
        go_wp2
        go_roundw
        case rel => exact ⟨2, by omega, by go_num, by rw [HX.out, HP.out.2.1]; go_num, trivial⟩
        case measure => simp [RowKit.intOf]; omega
      · have hr0 : r < 65536 := by rw [hpw.2.2.1] at hr; exact hr
        have q1 : bits BinOp.or IntKind.u32 (r : Int) ((x.toNat : Int) * 65536) = ((r + x.toNat * 65536 : Nat) : Int) := by
          have h1 := u32_or_nat r (x.toNat * 65536) (by omega) (by omega)
          have h2 := or_add (b := x.toNat) 16 hr0
          rw [show (2 : Nat) ^ 16 = 65536 from by decide] at h2
          rw [h2] at h1
          exact h1
        have HP := hid hpw
        clear hpw hr
        go_wp2
        go_roundw
        case rel => exact ⟨3, by omega, by go_num, by rw [HX.out, HP.out.2.2.1]; go_num, trivial⟩
        case measure => simp [RowKit.intOf]; omega
      · have hr0 : r < 16777216 := by rw [hpw.2.2.2] at hr; exact hr
        have q1 : bits BinOp.or IntKind.u32 (r : Int) ((x.toNat : Int) * 16777216) = ((r + x.toNat * 16777216 : Nat) : Int) := by
          have h1 := u32_or_nat r (x.toNat * 16777216) (by omega) (by omega)
          have h2 := or_add (b := x.toNat) 24 hr0
          rw [show (2 : Nat) ^ 24 = 16777216 from by decide] at h2
          rw [h2] at h1
          exact h1
        have HP := hid hpw
        clear hpw hr
        go_wp2
        go_roundw
        case rel => exact ⟨4, by omega, by go_num, by rw [HX.out, HP.out.2.2.2]; go_num, trivial⟩
        case measure => simp [RowKit.intOf]; omega
    · have hlt2 : ¬ (k : Int) < (l.length : Int) := by omega
      rw [List.take_of_length_le (by omega)]
      go_wp2
      go_ret
      exact ⟨rfl, rfl⟩
end Go.Proofs.YtpkkmfppdhjpkaaGreat
/- Room for bytes: the library's Grow of nothing. -/
namespace Go.Proofs.YtpkkmfppdhjpkaaGreat
set_option linter.unusedVariables false
open Go.RowKit
open Go.Lib (hid)

end Go.Proofs.YtpkkmfppdhjpkaaGreat
/- Bytes behind bytes: the library's Concat. -/
namespace Go.Proofs.YtpkkmfppdhjpkaaGreat
set_option linter.unusedVariables false
open Go.RowKit
open Go.Lib (hid)

end Go.Proofs.YtpkkmfppdhjpkaaGreat
/- The program's step and sum. -/
namespace Go.Proofs.YtpkkmfppdhjpkaaGreat
set_option linter.unusedVariables false
open Go.RowKit
open Go.Lib (hid)

set_option maxRecDepth 100000 in
theorem cStep {x : Nat} (h : x < 4294967296) (w : World) : Calls Tryz.prog 85 #[.int .u32 x] w fun e w' => e = .returned (.int .u32 (sN x)) ∧ w = w' := by
  have h2 : (x : Int) < 4294967296 := by omega
  have q1 : bits BinOp.xor IntKind.u32 ((x : Int) / 2) 3988292384 = ((x / 2 ^^^ 3988292384 : Nat) : Int) := by
    rw [u32_xor _ _ (by omega) (by omega) (by omega) (by omega)]
    congr 1
  have q0 : bits BinOp.xor IntKind.u32 ((x : Int) / 2) 0 = ((x / 2 : Nat) : Int) := by
    rw [u32_xor _ _ (by omega) (by omega) (by omega) (by omega)]
    simp
    omega
  have q2 : bits BinOp.and IntKind.u32 (x : Int) 1 = ((x % 2 : Nat) : Int) := by
    rw [u32_and _ _ (by omega) (by omega) (by omega) (by omega)]
    simp
  have q3 : bits BinOp.and IntKind.u32 3988292384 4294967295 = 3988292384 := by decide
  have q4 : bits BinOp.and IntKind.u32 3988292384 0 = 0 := by decide
  by_cases hp : x % 2 = 1
  · have he : sN x = x / 2 ^^^ 3988292384 := by unfold sN; rw [if_pos hp]
    rw [hp] at q2
    rw [he]
    go_enter Tryz.func85, Tryz.ntmps85
    go_wp2
    go_ret
    exact ⟨rfl, rfl⟩
  · have he : sN x = x / 2 := by unfold sN; rw [if_neg hp]
    rw [show x % 2 = 0 by omega] at q2
    rw [he]
    go_enter Tryz.func85, Tryz.ntmps85
    go_wp2
    go_ret
    exact ⟨congrArg (fun z => Ending.returned (Value.int IntKind.u32 z)) (by first | omega | rw [q0]), rfl⟩

theorem turned {r : Nat} (h : r < 4294967296) : bits BinOp.xor IntKind.u32 IntKind.u32.max (r : Int) = ((4294967295 - r : Nat) : Int) := by
  rw [show IntKind.u32.max = ((4294967295 : Nat) : Int) from by decide, u32_xor_nat _ _ (by omega) h]
  have h1 := @BitVec.toNat_not 32 (BitVec.ofNat 32 r)
  rw [← BitVec.allOnes_xor, BitVec.toNat_xor, BitVec.toNat_allOnes, BitVec.toNat_ofNat, Nat.mod_eq_of_lt (by omega)] at h1
  congr 1

set_option maxHeartbeats 1000000 in
set_option maxRecDepth 100000 in
theorem cSum {v : Value} {l : List UInt8} {w : World} (h : SlB w v l) (hl : l.length ≤ 1000000) : Calls Tryz.prog 65 #[v] w fun e w' => e = .returned (.int .u32 (sumN l)) ∧ w = w' := by
  obtain ⟨b, o, cap, a, rfl, hn, hcap, ha, hc, hb⟩ := h
  have HF := hid (sumN_lt l)
  go_enter Tryz.func65, Tryz.ntmps65
  go_wp2
  go_loopw [3, 8] (fun s i wr => ∃ k : Nat, k ≤ l.length ∧ i = .int .i64 k ∧ s = .int .u32 ((l.take k).foldl byteN 4294967295 : Nat) ∧ wr = w) (fun _ i _ => l.length - (intOf i).toNat)
  case atStart => exact ⟨0, Nat.zero_le _, rfl, rfl, rfl⟩
  case round =>
    obtain ⟨k, hk, rfl, rfl, rfl⟩ := hrel
    by_cases hlt : k < l.length
    · obtain rfl := ha (by omega)
      obtain ⟨x, hx⟩ : ∃ x, l[k]? = some x := ⟨l[k], List.getElem?_eq_getElem hlt⟩
      have c0 := hc k x hx
      have hbw := hb (by omega)
      have hlt2 : (k : Int) < (l.length : Int) := by omega
      have hnx : (l.take (k + 1)).foldl byteN 4294967295 = byteN ((l.take k).foldl byteN 4294967295) x := by rw [takeN_snoc hx, List.foldl_append]; rfl
      have hF := fold_lt (l.take k) (x := 4294967295) (by omega)
      obtain ⟨r, hr⟩ : ∃ r, r = (l.take k).foldl byteN 4294967295 := ⟨_, rfl⟩
      rw [← hr] at hnx hF ⊢
      have hxl := x.toNat_lt
      have HX := hid hnx
      have q1 : bits BinOp.xor IntKind.u32 (r : Int) (x.toNat : Int) = ((r ^^^ x.toNat : Nat) : Int) := u32_xor_nat _ _ hF (by omega)
      have hF2 : r ^^^ x.toNat < 4294967296 := xor_lt hF (by omega)
      have hxl2 : (x.toNat : Int) < 4294967296 := by omega
      have HC := hid hc
      clear hnx hr hx hc
      go_wp2
      go_loopw [3, 16] (fun s i w2 => ∃ m : Nat, m ≤ 8 ∧ i = .int .i64 m ∧ s = .int .u32 (sNs m (r ^^^ x.toNat) : Nat) ∧ w2 = wr) (fun _ i _ => 8 - (intOf i).toNat)
      case atStart => exact ⟨0, Nat.zero_le _, rfl, rfl, rfl⟩
      case round =>
        obtain ⟨m, hm, rfl, rfl, rfl⟩ := hrel
        by_cases hm8 : m < 8
        · have hs := cStep (sNs_lt m hF2)
          have e1 := hid (sNs_succ m (r ^^^ x.toNat))
          have hm2 : (m : Int) < 8 := by omega
          obtain ⟨z, hz⟩ : ∃ z, z = sNs m (r ^^^ x.toNat) := ⟨_, rfl⟩
          rw [← hz] at hs e1 ⊢
          clear hz
          go_wp2_with (go_at_call 85; refine (hs _).mono ?_; rintro e w' ⟨rfl, rfl⟩)
          go_roundw
          case rel => exact ⟨m + 1, by omega, by go_num, by rw [e1.out], trivial⟩
          case measure => simp [RowKit.intOf]; omega
        · obtain rfl : m = 8 := by omega
          go_wp2
          go_roundw
          case rel => exact ⟨k + 1, by omega, by go_num, by rw [HX.out]; rfl, trivial⟩
          case measure => simp [RowKit.intOf]; omega
    · have hlt2 : ¬ (k : Int) < (l.length : Int) := by omega
      have hall : l.take k = l := List.take_of_length_le (by omega)
      rw [hall]
      have hF := foldN_lt l
      obtain ⟨r, hr⟩ : ∃ r, r = foldN l := ⟨_, rfl⟩
      have hs : sumN l = 4294967295 - r := by unfold sumN; rw [hr]
      rw [show l.foldl byteN 4294967295 = r from hr.symm]
      rw [← hr] at hF
      have HS := hid hs
      clear hall hs hr
      have ht := turned hF
      go_wp2
      go_ret
      rw [HS.out]
      exact ⟨rfl, rfl⟩
end Go.Proofs.YtpkkmfppdhjpkaaGreat
