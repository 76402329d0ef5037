/- A frame of bytes: the program's Wrap, and the document's. -/
import Derived.Test.YtpjcjnifklgojaaFLow
import Derived.Test.YtpjcjnifklgojaaFConcat
import Derived.Test.YtpjcjnifklgojaaFStep
import Derived.Test.YtpjcjnifklgojaaFRSum
namespace Go.Proofs.Ytpjcjnifklgojaa
set_option linter.unusedVariables false
open Go.RowKit
open Go.Lib (hid)

def frameB (l : List UInt8) : List UInt8 := lowB l.length 2 ++ l ++ lowB (sumN l) 4
theorem frame_len (l : List UInt8) : (frameB l).length = l.length + 6 := by
  unfold frameB; rw [List.length_append, List.length_append, lowB_len, lowB_len]; omega
def wrapOk (l : List UInt8) : Bool := decide (1 ≤ l.length ∧ l.length ≤ 65535)
def wrapE (l : List UInt8) : Int := if wrapOk l = true then 0 else 1
def wrapB (l : List UInt8) : List UInt8 := if wrapOk l = true then frameB l else []
theorem wrap_yes {l : List UInt8} (h : 1 ≤ l.length) (h2 : l.length ≤ 65535) : wrapE l = 0 ∧ wrapB l = frameB l := by
  have h3 : wrapOk l = true := decide_eq_true ⟨h, h2⟩
  unfold wrapE wrapB; rw [if_pos h3, if_pos h3]; exact ⟨rfl, rfl⟩
theorem wrap_no {l : List UInt8} (h : ¬ (1 ≤ l.length ∧ l.length ≤ 65535)) : wrapE l = 1 ∧ wrapB l = [] := by
  have h3 : ¬ wrapOk l = true := fun hh => h (of_decide_eq_true hh)
  unfold wrapE wrapB; rw [if_neg h3, if_neg h3]; exact ⟨rfl, rfl⟩

/-- Three slices in a block just made. -/
theorem rows_three {w2 : World} {q : Nat} {T : TypeId} {s0 s1 s2 : Sv} {l0 l1 l2 : List UInt8} (h : w2.heap[q]? = some (.cells #[s0.v, s1.v, s2.v] T (0, 0))) (h0 : SlB w2 s0.v l0) (h1 : SlB w2 s1.v l1) (h2 : SlB w2 s2.v l2) : RowsB w2 q 0 [(s0, l0), (s1, l1), (s2, l2)] := by
  intro j p hp
  have hc := cellAt' h
  rw [Nat.zero_add]
  match j, hp with
  | 0, hp => cases hp; exact ⟨hc 0, h0⟩
  | 1, hp => cases hp; exact ⟨hc 1, h1⟩
  | 2, hp => cases hp; exact ⟨hc 2, h2⟩
  | _ + 3, hp => cases hp

set_option maxHeartbeats 1600000 in
set_option maxRecDepth 100000 in
theorem cWrap_no {v : Value} {l : List UInt8} {w : World} (h : SlB w v l) (hl : l.length ≤ 1000000) (hn : ¬ (1 ≤ l.length ∧ l.length ≤ 65535)) : Calls Try.prog 7 #[v] w fun e w' => e = .returned (.tuple #[.slice none 0 0, .int .i64 1]) ∧ w = w' := by
  obtain ⟨b, o, cap, a, rfl, _⟩ := h
  by_cases h0 : l.length = 0
  · have h1 : (l.length : Int) = 0 := by omega
    go_enter Try.func7, Try.ntmps7
    go_wp2
    go_ret2
    exact ⟨rfl, rfl⟩
  · have h1 : ¬ (l.length : Int) = 0 := by omega
    have h2 : (65535 : Int) < (l.length : Int) := by omega
    go_enter Try.func7, Try.ntmps7
    go_wp2
    go_ret2
    exact ⟨rfl, rfl⟩

set_option maxHeartbeats 1600000 in
set_option maxRecDepth 100000 in
theorem cWrap_yes {v : Value} {l : List UInt8} {w : World} (h : SlB w v l) (hn : 1 ≤ l.length) (hl : l.length ≤ 65535) : Calls Try.prog 7 #[v] w fun e w' => ∃ r, e = .returned (.tuple #[r, .int .i64 0]) ∧ OwnB w' w.heap.size r (frameB l) ∧ Below w.heap.size w w' := by
  have HS := hid h
  have hL1 : ∀ W, Calls Try.prog 15 #[.int .u32 (l.length : Int), .int .i64 2] W _ := fun W => cLow (n := l.length) (m := 2) (w := W) (by omega) (by omega)
  have hL2 : ∀ W, Calls Try.prog 15 #[.int .u32 (sumN l : Int), .int .i64 4] W _ := fun W => cLow (n := sumN l) (m := 4) (w := W) (sumN_lt l) (by omega)
  have hSum := fun W (hb : Below w.heap.size w W) => cSum (HS.out.on hb) (by omega)
  have HL1 := hid hL1
  have HL2 := hid hL2
  have HSum := hid hSum
  have hsl := sumN_lt l
  obtain ⟨S, hS⟩ : ∃ S, S = sumN l := ⟨_, rfl⟩
  have hFr : Hid (frameB l = lowB l.length 2 ++ l ++ lowB S 4) := hid (by rw [hS]; rfl)
  rw [← hS] at HSum HL2
  obtain ⟨b, o, cap, a, rfl, _⟩ := h
  obtain ⟨n, hnn⟩ : ∃ n, n = l.length := ⟨_, rfl⟩
  rw [← hnn] at HS HSum HL1 hn hl hFr ⊢
  have HN := hid hnn
  have h1 : ¬ (n : Int) = 0 := by omega
  clear hL1 hL2 hSum hS hsl hnn
  go_enter Try.func7, Try.ntmps7
  have h2 : ¬ (65535 : Int) < (n : Int) := by omega
  have h3 : ((n : Int) == 0) = false := by simp; omega
  have h4 : decide ((65535 : Int) < (n : Int)) = false := decide_eq_false h2
  go_wp2_with fail
  go_at_call 15
  refine (HL1.out _).mono ?_
  rintro e w1 ⟨r1, rfl, ho1, hB1⟩
  obtain ⟨g1, c1, n1, rfl, hg1⟩ := ho1.asSlice
  have HO1 := hid ho1
  have HB1 := hid hB1
  have HG1 := hid hg1
  clear ho1 hB1 hg1
  go_wp2_with fail
  go_at_call 12
  refine (HSum.out _ HB1.out).mono ?_
  rintro e w2 ⟨rfl, rfl⟩
  go_wp2_with fail
  go_at_call 15
  refine (HL2.out _).mono ?_
  rintro e w2 ⟨r2, rfl, ho2, hB2⟩
  obtain ⟨g2, c2, n2, rfl, hg2⟩ := ho2.asSlice
  have HO2 := hid ho2
  have HB2 := hid hB2
  have HG2 := hid hg2
  clear ho2 hB2 hg2
  go_wp2_with fail
  go_at_call 14
  have hB12 := HB1.out.trans (HB2.out.mono HB1.out.size)
  have hBx := hB12.alloc hB12.size (.cells #[.slice g1 n1 c1, .slice a n cap, .slice g2 n2 c2] 22)
  have hR : RowsB (w2.alloc (.cells #[.slice g1 n1 c1, .slice a n cap, .slice g2 n2 c2] 22)) w2.heap.size 0 [(⟨g1, n1, c1⟩, lowB n 2), (⟨a, n, cap⟩, l), (⟨g2, n2, c2⟩, lowB S 4)] :=
    rows_three (heap_alloc_new w2 _) ((HO1.out.slb.on HB2.out).on ((Below.refl _ w2).alloc (Nat.le_refl _) _)) (HS.out.on hBx) (HO2.out.slb.on ((Below.refl _ w2).alloc (Nat.le_refl _) _))
  have hlens : lensB [((⟨g1, n1, c1⟩ : Sv), lowB n 2), (⟨a, n, cap⟩, l), (⟨g2, n2, c2⟩, lowB S 4)] = n + 6 := by
    unfold lensB; simp [lowB_len, ← HN.out]; omega
  refine (cConcat (cap := 3) hR (by simp) (by rw [hlens]; omega) (by rw [hlens]; omega) (by simp)).mono ?_
  rintro e w3 ⟨r, rfl, ho, hB3⟩
  have HF : Hid (OwnB w3 w.heap.size r (frameB l)) := hid (by
    rw [hFr.out, show lowB n 2 ++ l ++ lowB S 4 = catB [((⟨g1, n1, c1⟩ : Sv), lowB n 2), (⟨a, n, cap⟩, l), (⟨g2, n2, c2⟩, lowB S 4)] from by unfold catB; simp]
    exact own_monoB ho hBx.size)
  have HB3 := hid (hBx.trans (hB3.mono hBx.size))
  obtain ⟨g3, c3, n3, rfl, hg3⟩ := ho.asSlice
  clear ho hg3 hB3 hR hlens hBx hB12
  go_wp2_with fail
  go_ret2
  exact ⟨_, rfl, HF.out, HB3.out⟩

theorem lit_two (w : World) (x y : UInt8) : OwnB (w.alloc (.cells #[.int .u8 x.toNat, .int .u8 y.toNat] 5)) w.heap.size (.slice (some ⟨w.heap.size, 0, none⟩) 2 2) [x, y] :=
  World.ownsRow_lit w #[.int .u8 x.toNat, .int .u8 y.toNat] 2 (Nat.le_refl _) (by unfold maxLen; omega) rfl

set_option maxHeartbeats 1600000 in
set_option maxRecDepth 100000 in
theorem rWrap_no {v : Value} {l : List UInt8} {w : World} (h : SlB w v l) (hl : l.length ≤ 1000000) (hn : ¬ (1 ≤ l.length ∧ l.length ≤ 65535)) : Calls Try.prog 8 #[v] w fun e w' => e = .returned (.tuple #[.slice none 0 0, .int .i64 1]) ∧ w = w' := by
  obtain ⟨b, o, cap, a, rfl, _⟩ := h
  by_cases h0 : l.length = 0
  · have h1 : (l.length : Int) < 1 := by omega
    go_enter Try.func8, Try.ntmps8
    go_wp2
    go_ret2
    exact ⟨rfl, rfl⟩
  · have h1 : ¬ (l.length : Int) < 1 := by omega
    have h2 : (65535 : Int) < (l.length : Int) := by omega
    go_enter Try.func8, Try.ntmps8
    go_wp2
    go_ret2
    exact ⟨rfl, rfl⟩

set_option maxHeartbeats 1600000 in
set_option maxRecDepth 100000 in
theorem rWrap_yes {v : Value} {l : List UInt8} {w : World} (h : SlB w v l) (hn : 1 ≤ l.length) (hl : l.length ≤ 65535) : Calls Try.prog 8 #[v] w fun e w' => ∃ r, e = .returned (.tuple #[r, .int .i64 0]) ∧ OwnB w' w.heap.size r (frameB l) ∧ Below w.heap.size w w' := by
  have HS := hid h
  have hSum := fun W (hb : Below w.heap.size w W) => rSum (HS.out.on hb) (by omega)
  have HSum := hid hSum
  have hsl := sumN_lt l
  obtain ⟨S, hS⟩ : ∃ S, S = sumN l := ⟨_, rfl⟩
  have hFr : Hid (frameB l = lowB l.length 2 ++ l ++ lowB S 4) := hid (by rw [hS]; rfl)
  rw [← hS] at HSum hsl
  obtain ⟨b, o, cap, a, rfl, _⟩ := h
  obtain ⟨n, hnn⟩ : ∃ n, n = l.length := ⟨_, rfl⟩
  rw [← hnn] at HS HSum hn hl hFr ⊢
  have HN := hid hnn
  obtain ⟨n0, h0⟩ : ∃ n0, n0 = n % 256 := ⟨_, rfl⟩
  obtain ⟨n1, h1⟩ : ∃ n1, n1 = n / 256 := ⟨_, rfl⟩
  have h02 : (n : Int) % 256 = n0 := by omega
  have h12 : (n : Int) / 256 = n1 := by omega
  have hn0 : n0 < 256 := by omega
  have hn1 : n1 < 256 := by omega
  have HLO : Hid (lowB n 2 = [UInt8.ofNat n0, UInt8.ofNat n1]) := hid (by
    rw [show (2 : Nat) = 1 + 1 from rfl, lowB, lowB, lowB, ← h0, ← h1, Nat.mod_eq_of_lt hn1])
  have HT := hid (lit_two w (UInt8.ofNat n0) (UInt8.ofNat n1))
  rw [toNat_small hn0, toNat_small hn1] at HT
  have h2 : ¬ (n : Int) < 1 := by omega
  have h3 : ¬ (65535 : Int) < (n : Int) := by omega
  have h4 : decide ((n : Int) < 1) = false := decide_eq_false h2
  have h5 : decide ((65535 : Int) < (n : Int)) = false := decide_eq_false h3
  clear hSum hS hnn h0 h1
  go_enter Try.func8, Try.ntmps8
  have hsz : w.heap.size ≤ (w.alloc (.cells #[.int .u8 n0, .int .u8 n1] 5)).heap.size := by simp
  go_wp2_with (at_builtin; refine wpList_append_slb rfl _ _ rfl w.heap.size _ [UInt8.ofNat n0, UInt8.ofNat n1] rfl HT.out _ l rfl (HS.out.on ((Below.refl _ w).alloc (Nat.le_refl _) _)) (by rw [← HN.out]; simp; omega) hsz ?_; intro v' w1 ho1 hg1)
  have HB1 := hid (((Below.refl _ w).alloc (Nat.le_refl _) (.cells #[.int .u8 n0, .int .u8 n1] 5)).grown hg1 hsz (fun k hk => by cases hk; exact Nat.le_refl _))
  obtain ⟨ga, ca, na, rfl, hna⟩ := ho1.asSlice
  have HO1 := hid ho1
  clear ho1 hg1 hna
  go_wp2_with fail
  go_at_call 13
  refine (HSum.out _ HB1.out).mono ?_
  rintro e w2 ⟨rfl, hB2⟩
  have hB12 := HB1.out.trans (hB2.mono HB1.out.size)
  have HO2 := hid (own_below HO1.out hB2 (fun k hk => (HO1.out.lt k hk).2))
  have HB2 := hid hB12
  clear hB2 hB12
  obtain ⟨i0, hi, hz0, hz1, hz2⟩ := info_parts Try.infoB
  go_wp2_with fail
  go_loopw [5, 6, 7] (fun u s i wr => ∃ (k z : Nat), k ≤ 4 ∧ i = .int .i64 k ∧ s = .int .u32 z ∧ z < 4294967296 ∧ Hid (z = S / 256 ^ k) ∧ OwnB wr w.heap.size u ([UInt8.ofNat n0, UInt8.ofNat n1] ++ l ++ lowB S k) ∧ Below w.heap.size w wr) (fun _ _ i _ => 4 - (intOf i).toNat)
  case atStart => exact ⟨0, S, Nat.zero_le _, rfl, rfl, hsl, hid (by simp), by rw [show lowB S 0 = [] from rfl, List.append_nil]; exact HO2.out, HB2.out⟩
  case round =>
    obtain ⟨k, z, hk, rfl, rfl, hz, hzk, hown, hB⟩ := hrel
    have hsz3 := hB.size
    have HB3 := hid hB
    obtain ⟨out, hout⟩ : ∃ out, out = [UInt8.ofNat n0, UInt8.ofNat n1] ++ l ++ lowB S k := ⟨_, rfl⟩
    have hol : out.length = n + 2 + k := by rw [hout]; simp [lowB_len, ← HN.out]; omega
    rw [← hout] at hown
    have HOUT := hid hout
    have HO3 := hid hown
    have HOL := hid hol
    clear hB hout hol
    by_cases hlt : k < 4
    · have hlt2 : (k : Int) < 4 := by omega
      obtain ⟨r, hr⟩ : ∃ r, r = z % 256 := ⟨_, rfl⟩
      obtain ⟨q, hq⟩ : ∃ q, q = z / 256 := ⟨_, rfl⟩
      have hr2 : (z : Int) % 256 = r := by omega
      have hq2 : (z : Int) / 256 = q := by omega
      have hr256 : r < 256 := by omega
      have hqz : q < 4294967296 := by omega
      have HQ := hid (And.intro hr hq)
      have HZ := hid hz
      clear hr hq hz
      go_wp2_with (at_builtin; refine wpList_append_own _ rfl _ _ 22 rfl w.heap.size 5 i0 _ 1 1 Try.underlying22 hi hz0 hz1 hz2 rfl (by decide) _ _ _ rfl (hown.alloc _) ⟨wr.heap.size, 0, none⟩ 1 1 [.int .u8 r] rfl rfl (new_one rfl) ?c2 ?c3 ?c4 ?c5 ?_)
      case c2 => intro u hu; simp at hu; subst hu; rfl
      case c3 => unfold maxLen; have := HOL.out; omega
      case c4 => have := HOL.out; omega
      case c5 => first | omega | (simp; omega)
      intro v' w2 hown' hgrow _
      have R := own_one (by omega) (HB3.out.alloc hsz3 _) (by simp; omega) (fun k hk => (HO3.out.lt k hk).1) hown' hgrow
      rw [HQ.out.1, hzk.out, HOUT.out, List.append_assoc, ← lowB_snoc] at R
      clear hown' hgrow hown
      go_wp2
      go_roundw
      case rel => exact ⟨k + 1, q, by omega, by go_num, rfl, hqz, hid (by rw [HQ.out.2, hzk.out, Nat.div_div_eq_div_mul, Nat.pow_succ]), R.1, R.2⟩
      case measure => simp [RowKit.intOf]; omega
    · obtain rfl : k = 4 := by omega
      have HF : Hid (OwnB wr w.heap.size u5 (frameB l)) := hid (by rw [hFr.out, HLO.out, ← HOUT.out]; exact HO3.out)
      obtain ⟨g3, c3, n3, rfl, hg3⟩ := hown.asSlice
      clear hown hg3 HO3
      go_wp2_with fail
      go_ret2
      exact ⟨_, rfl, HF.out, HB3.out⟩
end Go.Proofs.Ytpjcjnifklgojaa
