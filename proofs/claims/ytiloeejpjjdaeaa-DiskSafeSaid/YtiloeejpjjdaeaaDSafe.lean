/- The walk of the law DiskSafe. -/
import Derived.Test.YtiloeejpjjdaeaaDOne
namespace Go.Proofs.Ytiloeejpjjdaeaa
set_option linter.unusedVariables false
open Go.RowKit
open Go.Lib (hid)

set_option maxHeartbeats 1600000 in
set_option maxRecDepth 100000 in
theorem wSafe_long {w : World} {v : Value} {xs : List Av} (h : SlA w v xs) (hl : xs.length ≤ 9223372036854775807) (hbig : ∀ x ∈ xs, x.b.length ≤ 9223372036854775807) (keep : Int) (hf : fitsA xs = false) : Calls Try.prog 4 #[v, .int .i64 keep] w fun e w' => e = .returned (.bool true) ∧ Below w.heap.size w w' := by
  have HC := hid (cFits h hl hbig)
  rw [hf] at HC
  clear h hl hbig hf
  go_enter Try.func4, Try.ntmps4
  go_wp2_with fail
  go_at_call 5
  refine HC.out.mono ?_
  rintro e w1 ⟨rfl, rfl⟩
  go_wp2_with fail
  go_at_call 6
  refine (cAlive _).mono ?_
  rintro e w1 ⟨rfl, hB⟩
  go_wp2_with fail
  go_ret
  exact ⟨rfl, hB⟩

theorem two_new {w w1 w2 : World} {room : Int} {p : Nat} (h1 : One w w1 p room [] 0) (h2 : Below w1.heap.size w1 w2) (hR : Rk w2 w1.heap.size room (.slice none 0 0) 0) : Two w2 w.heap.size w2.heap.size p w1.heap.size room [] 0 ∧ Below w.heap.size w w2 := by
  obtain ⟨v, hD, hO, a1, a2, a3⟩ := h1.on h2
  exact ⟨⟨v, _, hD, hR, hO, SlB.nil _, (fun k hk => by simp [Value.ownBlock] at hk), (fun k hk => (hO.lt k hk).2), a1, (Array.getElem?_eq_some_iff.1 hD).1, h1.below.size, (Array.getElem?_eq_some_iff.1 hR).1, Nat.le_refl _, Nat.le_refl _⟩, a2⟩
theorem Two.one {w W : World} {N p q s : Nat} {room : Int} {l : List UInt8} (h : Two W w.heap.size N p q room l s) (hb : Below w.heap.size w W) : One w W p room l s := by
  obtain ⟨v, u, hD, hR, hO, hS, hu, hv, h1, h2, h3, h4, h5, h6⟩ := h
  exact ⟨v, hD, hO, h1, hb, h6⟩

set_option maxHeartbeats 6400000 in
set_option maxRecDepth 100000 in
theorem wSafe {w : World} {v : Value} {xs : List Av} (h : SlA w v xs) (hl : xs.length ≤ 9223372036854775807) (hbig : ∀ x ∈ xs, x.b.length ≤ 9223372036854775807) (keep : Int) (hk0 : -9223372036854775808 ≤ keep) (hk1 : keep ≤ 9223372036854775807) (hf : fitsA xs = true) : Calls Try.prog 4 #[v, .int .i64 keep] w fun e w' => e = .returned (.bool true) ∧ Below w.heap.size w w' := by
  have HC := hid (cFits h hl hbig)
  rw [hf] at HC
  have hff : lenA xs ≤ 3000 ∧ xs.length ≤ 60 := by unfold fitsA at hf; simp at hf; exact hf
  have HF := hid hff
  obtain ⟨b, o, cap, a, rfl, hcap, ha, hr, hlt⟩ := h
  obtain ⟨n, hn⟩ : ∃ n, n = xs.length := ⟨_, rfl⟩
  rw [← hn] at hl hcap ha hlt hff HC ⊢
  have hn60 : n ≤ 60 := hff.2
  have hncap : (n : Int) ≤ (cap : Int) := by omega
  have HN := hid hn
  have HR := hid hr
  have HA := hid (And.intro ha hlt)
  clear hr hn ha hlt hbig hcap hf hff hl
  go_enter Try.func4, Try.ntmps4
  go_wp2_with fail
  go_at_call 5
  refine HC.out.mono ?_
  rintro e w1 ⟨rfl, rfl⟩
  clear HC
  go_wp2_with fail
  go_at_call 7
  refine (one_new (Below.refl _ w) (by decide)).mono ?_
  rintro e w1 ⟨rfl, h1⟩
  have HT0 := two_new h1 ((Below.refl _ w1).alloc (Nat.le_refl _) (.cells #[.int .i64 2000, .slice none 0 0, .int .i64 0] 39)) (heap_alloc_new w1 _)
  obtain ⟨p, HT, hp⟩ : ∃ p, Hid (Two (w1.alloc (.cells #[.int .i64 2000, .slice none 0 0, .int .i64 0] 39)) w.heap.size (w1.alloc (.cells #[.int .i64 2000, .slice none 0 0, .int .i64 0] 39)).heap.size p w1.heap.size 2000 [] 0 ∧ Below w.heap.size w (w1.alloc (.cells #[.int .i64 2000, .slice none 0 0, .int .i64 0] 39))) ∧ p = w.heap.size := ⟨_, hid HT0, rfl⟩
  rw [← hp]
  clear h1 hp HT0
  obtain ⟨q, hq⟩ : ∃ q, q = w1.heap.size := ⟨_, rfl⟩
  rw [← hq] at HT
  go_wp2_with fail
  rw [← hq]
  clear hq
  go_loopw [9] (fun i wr => ∃ (j s : Nat) (l : List UInt8), j ≤ n ∧ i = .int .i64 j ∧ Hid (Two wr w.heap.size wr.heap.size p q 2000 l s ∧ Below w.heap.size w wr ∧ l.length ≤ lenA (xs.take j))) (fun i _ => n - (intOf i).toNat)
  case atStart => exact ⟨0, 0, [], Nat.zero_le _, rfl, hid ⟨HT.out.1, HT.out.2, Nat.zero_le _⟩⟩
  case round =>
    obtain ⟨j, s, l, hj, rfl, HI⟩ := hrel
    by_cases hlt : j < n
    · obtain ⟨x, hx⟩ : ∃ x, xs[j]? = some x := ⟨xs[j]'(by rw [← HN.out]; exact hlt), List.getElem?_eq_getElem (by rw [← HN.out]; exact hlt)⟩
      obtain ⟨k0, k1, k2, hs, hk8, _⟩ := HR.out j x hx
      obtain ⟨rfl, hbl⟩ : a = some ⟨b, o, none⟩ ∧ b < w.heap.size := ⟨HA.out.1 (by omega), HA.out.2 (by omega)⟩
      have d0 := (HI.out.2.1.cell (p := ⟨b, o + j * 3, none⟩) hbl).trans k0
      have d1 := (HI.out.2.1.cell (p := ⟨b, o + j * 3 + 1, none⟩) hbl).trans k1
      have d2 := (HI.out.2.1.cell (p := ⟨b, o + j * 3 + 2, none⟩) hbl).trans k2
      have hnx := lenA_next hx
      have hall := lenA_le xs (j + 1)
      have hlt2 : (j : Int) < (n : Int) := by omega
      have HX := hid (And.intro hs (And.intro hk8 (And.intro hnx hall)))
      have HXX := hid hx
      clear hs hk8 hnx hall hx k0 k1 k2
      go_wp2_with fail
      go_at_call 17
      refine (cStep (x := x) HI.out.1 HI.out.2.1 HX.out.1 (by decide) (by have h1 := HX.out.2.2.1; have h2 := HX.out.2.2.2; have h3 := HF.out.1; have h4 := HI.out.2.2; omega) HX.out.2.1).mono ?_
      rintro e w2 ⟨rfl, ⟨l', s', hT', hl'⟩, hC⟩
      have HI2 := hid (And.intro hT' (And.intro (hC.below HI.out.2.1 HI.out.2.1.size) (show l'.length ≤ lenA (xs.take (j + 1)) by have h1 := HX.out.2.2.1; have h4 := HI.out.2.2; omega)))
      clear hT' hl' hC d0 d1 d2
      go_wp2
      go_roundw
      case rel => exact ⟨j + 1, s', l', by omega, by go_num, HI2⟩
      case measure => simp [RowKit.intOf]; omega
    · have hlt2 : ¬ (j : Int) < (n : Int) := by omega
      have HO := hid (HI.out.1.one HI.out.2.1)
      have HLL : Hid (l.length ≤ 3000) := hid (by have h1 := HI.out.2.2; have h2 := HF.out.1; have h3 := lenA_le xs j; omega)
      clear HI HT HA HR HN HF hncap hn60
      go_wp2_with fail
      go_at_call 13
      refine (one_bytes HO.out (by have := HLL.out; omega)).mono ?_
      rintro e w2 ⟨r1, rfl, ho1, hB2, h2⟩
      have HO2 := hid h2
      have HS1 := hid ho1.slb
      have HP1 := hid (fun k (hk : r1.ownBlock = some k) => (show (some p : Option Nat) ≠ some k from fun e => by have h1 := (ho1.lt k hk).1; have h2 := HO.out.plt; injection e; omega))
      obtain ⟨g1, c1, n1, rfl, hn1⟩ := ho1.asSlice
      obtain rfl : n1 = l.length := hn1
      clear ho1 hB2 h2 HO
      go_wp2_with fail
      go_at_call 14
      refine (one_synced HO2.out).mono ?_
      rintro e w3 ⟨rfl, rfl⟩
      go_wp2_with fail
      go_at_call 10
      refine (one_crash HO2.out (by have := HLL.out; omega) keep).mono ?_
      rintro e w3 ⟨rfl, h3, hg3⟩
      have HSL := hid HO2.out.sle
      have HS3 := hid (HS1.out.kept hg3 HP1.out)
      obtain ⟨c, hc⟩ : ∃ c, c = crashN l.length s keep := ⟨_, rfl⟩
      rw [← hc] at h3
      have hcl : c ≤ l.length := by rw [hc]; exact crash_le _ _ HSL.out keep
      have hlen : (l.take c).length = c := by rw [List.length_take]; omega
      have HC := hid (And.intro hc (And.intro hcl hlen))
      have H3 := hid h3
      clear h3 hg3 HS1 HP1 HO2 hc hcl hlen
      go_wp2_with fail
      go_at_call 13
      refine (one_bytes H3.out (by rw [HC.out.2.2]; have := HC.out.2.1; have := HLL.out; omega)).mono ?_
      rintro e w4 ⟨r2, rfl, ho2, hB4, h4⟩
      have H4 := hid h4
      have HS4 := hid ho2.slb
      have HS34 := hid (HS3.out.on hB4)
      obtain ⟨g2, c2, n2, rfl, hn2⟩ := ho2.asSlice
      obtain rfl : n2 = c := hn2.trans HC.out.2.2
      have hcap1 : l.length ≤ c1 := by
        obtain ⟨a5, cap5, e5, h5, _⟩ := HS34.out.any
        injection e5 with e6 e7 e8
        omega
      have v1 : ∀ k, (convert 33 9 (.slice g2 n2 c2)).run Try.prog (w4.drewN k) = .ok (strB (l.take n2)) (w4.drewN k) := fun k => convB (HS4.out.on (belowDrewN (Below.refl _ _) k))
      have v2 : ∀ k, (convert 33 9 (.slice g1 n2 c1)).run Try.prog (w4.drewN k) = .ok (strB (l.take n2)) (w4.drewN k) := fun k => convB ((HS34.out.headA HC.out.2.1).on (belowDrewN (Below.refl _ _) k))
      have v3 := cut_run g1 l.length c1 n2 (by have := HC.out.2.1; omega)
      obtain ⟨M, hM⟩ : ∃ M, M = l.length := ⟨_, rfl⟩
      have hcs : n2 = s + (min (max keep 0) ((M : Int) - s)).toNat := by rw [hM]; exact HC.out.1
      have hsm : s ≤ M := by rw [hM]; exact HSL.out
      have hm3 : M ≤ 3000 := by rw [hM]; exact HLL.out
      have hnm : n2 ≤ M := by rw [hM]; exact HC.out.2.1
      rw [← hM] at v3 ⊢
      have z1 : decide ((n2 : Int) < (s : Int)) = false := decide_eq_false (by omega)
      have z2 : decide ((M : Int) < (n2 : Int)) = false := decide_eq_false (by omega)
      have z3 : decide ((M : Int) < (s : Int)) = false := decide_eq_false (by omega)
      have y1 : decide (n2 < s) = false := decide_eq_false (by omega)
      have y2 : decide (M < n2) = false := decide_eq_false (by omega)
      have y3 : decide (M < s) = false := decide_eq_false (by omega)
      have z4 : ¬ (n2 : Int) < (s : Int) := by omega
      have z5 : ¬ (M : Int) < (n2 : Int) := by omega
      have z6 : ¬ (M : Int) < (s : Int) := by omega
      have HZ := hid (And.intro hcs (And.intro hsm (And.intro hm3 hnm)))
      clear ho2 hB4 h4 hn2 hM hcs hcap1 HS3 HS34 HS4 H3 hsm hm3 hnm
      go_wp2_with fail
      go_quiet (fail)
      have HL5 : Hid ((l.take n2).length = n2 ∧ (l.take n2).length ≤ 1000000) := hid ⟨HC.out.2.2, by rw [HC.out.2.2]; have := HZ.out; omega⟩
      have H5 := hid (H4.out.on (belowDrewN (Below.refl _ w4) nq))
      clear z1 z2 z3 z4 z5 z6 y1 y2 y3 v1 v2 v3 HC H4
      by_cases k1 : keep ≤ 0
      · obtain rfl : n2 = s := by have := HZ.out; omega
        have k2 : ¬ 0 < keep := by omega
        have k6 : wrap64 ((2000 : Int) - (n2 : Int)) = (2000 : Int) - (n2 : Int) := by have := HZ.out; unfold wrap64; omega
        clear HZ
        go_wp2_with fail
        go_at_call 6
        refine (cAlive _).mono ?_
        rintro e w6 ⟨rfl, hB6⟩
        have H6 := hid (H5.out.on hB6)
        clear hB6
        go_wp2_with fail
        go_at_call 14
        refine (one_synced H6.out).mono ?_
        rintro e w7 ⟨rfl, rfl⟩
        go_wp2_with fail
        go_at_call 15
        refine (one_left H6.out (by decide) HL5.out.2).mono ?_
        rintro e w7 ⟨rfl, hB7⟩
        rw [HL5.out.1]
        have HB7 := hid (H6.out.below.trans (hB7.mono H6.out.below.size))
        clear hB7
        go_wp2_with fail
        go_ret
        exact ⟨rfl, HB7.out⟩
      · by_cases k2 : keep < (M : Int) - (s : Int)
        · obtain ⟨kk, rfl⟩ : ∃ kk : Nat, keep = kk := ⟨keep.toNat, by omega⟩
          obtain rfl : n2 = s + kk := by have := HZ.out; omega
          have k3 : (0 : Int) < (kk : Int) := by omega
          have k4 : wrap64 ((M : Int) - (s : Int)) = (M : Int) - (s : Int) := by have := HZ.out; unfold wrap64; omega
          have k5 : wrap64 ((s : Int) + (kk : Int)) = (s : Int) + (kk : Int) := by have := HZ.out; unfold wrap64; omega
          have k6 : wrap64 ((2000 : Int) - ((s : Int) + (kk : Int))) = (2000 : Int) - ((s : Int) + (kk : Int)) := by have := HZ.out; unfold wrap64; omega
          clear HZ
          go_wp2_with fail
          go_at_call 6
          refine (cAlive _).mono ?_
          rintro e w6 ⟨rfl, hB6⟩
          have H6 := hid (H5.out.on hB6)
          clear hB6
          go_wp2_with fail
          go_at_call 14
          refine (one_synced H6.out).mono ?_
          rintro e w7 ⟨rfl, rfl⟩
          go_wp2_with fail
          go_at_call 15
          refine (one_left H6.out (by decide) HL5.out.2).mono ?_
          rintro e w7 ⟨rfl, hB7⟩
          rw [HL5.out.1]
          have HB7 := hid (H6.out.below.trans (hB7.mono H6.out.below.size))
          clear hB7
          go_wp2_with fail
          go_ret
          exact ⟨rfl, HB7.out⟩
        · obtain rfl : n2 = M := by have := HZ.out; omega
          have k3 : (0 : Int) < keep := by omega
          have k4 : wrap64 ((n2 : Int) - (s : Int)) = (n2 : Int) - (s : Int) := by have := HZ.out; unfold wrap64; omega
          have k6 : wrap64 ((2000 : Int) - (n2 : Int)) = (2000 : Int) - (n2 : Int) := by have := HZ.out; unfold wrap64; omega
          clear HZ
          go_wp2_with fail
          go_at_call 6
          refine (cAlive _).mono ?_
          rintro e w6 ⟨rfl, hB6⟩
          have H6 := hid (H5.out.on hB6)
          clear hB6
          go_wp2_with fail
          go_at_call 14
          refine (one_synced H6.out).mono ?_
          rintro e w7 ⟨rfl, rfl⟩
          go_wp2_with fail
          go_at_call 15
          refine (one_left H6.out (by decide) HL5.out.2).mono ?_
          rintro e w7 ⟨rfl, hB7⟩
          rw [HL5.out.1]
          have HB7 := hid (H6.out.below.trans (hB7.mono H6.out.below.size))
          clear hB7
          go_wp2_with fail
          go_ret
          exact ⟨rfl, HB7.out⟩
end Go.Proofs.Ytiloeejpjjdaeaa
