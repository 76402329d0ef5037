/- The walk of the law FrameTurned. -/
import Derived.Test.YtpjcjnifklgojaaFTells
import Derived.Deep.CutRange
namespace Go.Proofs.Ytpjcjnifklgojaa
set_option linter.unusedVariables false
open Go.RowKit
open Go.Lib (hid)

set_option maxHeartbeats 1600000 in
set_option maxRecDepth 100000 in
theorem wTurned_out {va : Value} {l : List UInt8} {w : World} (ha : SlB w va l) (hl : l.length ≤ 9223372036854775807) (i : Int) (c : Nat) (hc : c < 256) (h : l.length < 1 ∨ 1500 < l.length ∨ c = 0) : Calls Try.prog 5 #[va, .int .i64 i, .int .u8 c] w fun e w' => e = .returned (.bool true) ∧ Below w.heap.size w w' := by
  obtain ⟨a, cap, rfl, _⟩ := ha.any
  obtain ⟨n, hn⟩ : ∃ n, n = l.length := ⟨_, rfl⟩
  rw [← hn] at h hl ⊢
  clear ha hn
  by_cases h1 : n < 1
  · have h2 : (n : Int) < 1 := by omega
    go_enter Try.func5, Try.ntmps5
    go_wp2_with (go_at_call 6; refine (oAlive _).mono ?_; rintro e w' ⟨rfl, hB⟩)
    go_ret
    exact ⟨rfl, hB⟩
  · have h2 : ¬ (n : Int) < 1 := by omega
    by_cases h3 : 1500 < n
    · have h4 : (1500 : Int) < (n : Int) := by omega
      go_enter Try.func5, Try.ntmps5
      go_wp2_with (go_at_call 6; refine (oAlive _).mono ?_; rintro e w' ⟨rfl, hB⟩)
      go_ret
      exact ⟨rfl, hB⟩
    · have h4 : ¬ (1500 : Int) < (n : Int) := by omega
      obtain rfl : c = 0 := by omega
      go_enter Try.func5, Try.ntmps5
      go_wp2_with (go_at_call 6; refine (oAlive _).mono ?_; rintro e w' ⟨rfl, hB⟩)
      go_ret
      exact ⟨rfl, hB⟩

theorem frame_row {w : World} {B n c : Nat} {g : Option Addr} {l : List UInt8} (hl : l.length = n) (h : OwnB w B (.slice g l.length c) l) : w.ownsRow B 5 1 (.slice g n c) n (octs l) := by
  unfold OwnB at h; rw [hl] at h; exact h
set_option maxHeartbeats 1600000 in
set_option maxRecDepth 100000 in
theorem wTurned {va : Value} {l : List UInt8} {w : World} (ha : SlB w va l) (i : Int) (c : Nat) (hc : c < 256) (h1 : 1 ≤ l.length) (h2 : l.length ≤ 1500) (h3 : c ≠ 0) : Calls Try.prog 5 #[va, .int .i64 i, .int .u8 c] w fun e w' => e = .returned (.bool true) ∧ Below w.heap.size w w' := by
  have HA := hid ha
  obtain ⟨a, cap, rfl, _⟩ := ha.any
  obtain ⟨n, hn⟩ : ∃ n, n = l.length := ⟨_, rfl⟩
  rw [← hn] at HA ⊢
  have HN := hid hn
  have k1 : ¬ (n : Int) < 1 := by omega
  have k2 : ¬ (1500 : Int) < (n : Int) := by omega
  have k3 : ¬ (c : Int) = 0 := by omega
  have k4 : decide ((n : Int) < 1) = false := decide_eq_false k1
  have k5 : decide ((1500 : Int) < (n : Int)) = false := decide_eq_false k2
  have k6 : ((c : Int) == 0) = false := by simp; omega
  have hnb : n ≤ 1500 := by omega
  clear ha hn h1 h2 h3
  go_enter Try.func5, Try.ntmps5
  go_wp2_with fail
  go_at_call 7
  have hn1 : 1 ≤ l.length := by have := HN.out; omega
  have hn2 : l.length ≤ 1500 := by have := HN.out; omega
  refine (cWrap_yes HA.out hn1 (by omega)).mono ?_
  rintro e w1 ⟨r1, rfl, ho1, hB1⟩
  have HB1 := hid hB1
  obtain ⟨g1, c1, rfl⟩ := ho1.some (fun e => by have := congrArg List.length e; rw [frame_len] at this; simp at this)
  have hfl : (frameB l).length = n + 6 := by rw [frame_len, ← HN.out]
  have HO1 := hid ho1
  rw [hfl] at HO1 ⊢
  have HFL := hid hfl
  clear ho1 hB1 hfl hn1 hn2
  by_cases hi : i < 2
  · have k8 : decide (i < 2) = true := decide_eq_true hi
    go_wp2_with fail
    go_at_call 6
    refine (oAlive _).mono ?_
    rintro e w' ⟨rfl, hB⟩
    go_wp2_with fail
    go_ret
    exact ⟨rfl, HB1.out.trans (hB.mono HB1.out.size)⟩
  · have k8 : decide (i < 2) = false := decide_eq_false hi
    by_cases hj : (n : Int) + 6 ≤ i
    · have k9 : decide ((n : Int) + 6 ≤ i) = true := decide_eq_true hj
      go_wp2_with fail
      go_at_call 6
      refine (oAlive _).mono ?_
      rintro e w' ⟨rfl, hB⟩
      go_wp2_with fail
      go_ret
      exact ⟨rfl, HB1.out.trans (hB.mono HB1.out.size)⟩
    · have k9 : decide ((n : Int) + 6 ≤ i) = false := decide_eq_false hj
      obtain ⟨k, rfl⟩ : ∃ k : Nat, i = k := ⟨i.toNat, by omega⟩
      have hk2 : 2 ≤ k := by omega
      have hkn : k < n + 6 := by omega
      obtain ⟨x, hx⟩ : ∃ x, (frameB l)[k]? = some x := ⟨(frameB l)[k]'(by have := HFL.out; omega), List.getElem?_eq_getElem (by have := HFL.out; omega)⟩
      have hx256 := x.toNat_lt
      obtain ⟨y, hy⟩ : ∃ y, y = x.toNat ^^^ c := ⟨_, rfl⟩
      have hy256 : y < 256 := by rw [hy]; exact Nat.xor_lt_two_pow (n := 8) hx256 hc
      have q1 : bits BinOp.xor IntKind.u8 (x.toNat : Int) (c : Int) = (y : Int) := by rw [hy]; exact u8_xor_nat _ _ hx256 hc
      have hyx : UInt8.ofNat y ≠ x := by
        intro hh
        have h2 := congrArg UInt8.toNat hh
        rw [toNat_small hy256, hy] at h2
        have h3 : c = 0 := by
          have h4 : x.toNat ^^^ (x.toNat ^^^ c) = x.toNat ^^^ x.toNat := by rw [h2]
          rw [← Nat.xor_assoc, Nat.xor_self, Nat.zero_xor] at h4
          exact h4
        exact k3 (by rw [h3]; rfl)
      have HT := hid (turned_first (l := l) (by have := HN.out; omega) (by have := HN.out; omega) hk2 (by have := HN.out; omega) hx hyx)
      have HX := hid hx
      clear hyx hx hy k6
      have tok : Hid (0 = 0) := hid rfl
      have hsz1 := HB1.out.size
      go_upto_region 8 with fail
      go_wp2_with (first
        | (clear tok; at_builtin; refine wpList_append_slb rfl _ _ rfl w1.heap.size _ [] rfl (OwnB.made w1) _ (frameB l) rfl (by have h := HO1.out.slb.on ((Below.refl _ w1).alloc (Nat.le_refl _) (.cells #[] 5)); exact h) (by rw [HFL.out]; simp; omega) (by simp) ?_; intro v5 w5 ho5 hg5; rw [List.nil_append] at ho5; have hb5 := ((Below.refl _ w1).alloc (Nat.le_refl _) (.cells #[] 5)).grown hg5 (by simp) (fun k hk => by cases hk; exact Nat.le_refl _); obtain ⟨g5, c5, rfl⟩ := ho5.some (fun e => by have := congrArg List.length e; rw [HFL.out] at this; simp at this); have hr5 := frame_row HFL.out ho5; rw [HFL.out]; clear ho5 hg5; have hgl5 := (hr5.lt g5 rfl).2; have d0 : w5.cell? ⟨g5, k, none⟩ = some (.int .u8 x.toNat) := (hr5.cellAt k (by omega)).trans (by simp [octs, HX.out]); have hf0 := hr5.frozenAt k; have HST := hid (hr5.stored k (.int .u8 y)); have HB5 := hid (HB1.out.trans (hb5.mono hsz1)); clear hr5 hb5)
        | fail)
      have hsz5 := HB5.out.size
      have hset : (octs (frameB l)).set k (.int .u8 y) = octs ((frameB l).set k (UInt8.ofNat y)) := by
        unfold octs; rw [List.map_set, toNat_small hy256]
      have hx5 := HST.out.1
      rw [hset] at hx5
      have hxb : OwnB (w5.setCell ⟨g5, k, none⟩ (.int .u8 y)) w1.heap.size (.slice (some ⟨g5, 0, none⟩) (n + 6) c5) ((frameB l).set k (UInt8.ofNat y)) := by
        unfold OwnB; rw [List.length_set, HFL.out]; exact hx5
      have hB6 := HB5.out.grown HST.out.2 hsz5 (fun k hk => by cases hk; have := (hx5.lt g5 rfl).1; omega)
      go_at_call 9
      refine (cScan hxb.slb (by rw [List.length_set, HFL.out]; omega)).mono ?_
      rintro e w7 ⟨r7, ps, rfl, ho7, hm7, hB7⟩
      rw [scan_stop HT.out] at hm7 ⊢
      have HB7 := hid (hB6.trans (hB7.mono hB6.size))
      obtain ⟨g7, c7, n7, rfl, hn7⟩ := ho7.asSlice
      obtain rfl : n7 = 0 := by rw [hn7]; have := congrArg List.length hm7; simpa using this
      clear ho7 hm7 hB7 hB6 hxb hx5 hset hn7
      go_wp2_with fail
      go_at_call 6
      refine (oAlive _).mono ?_
      rintro e w8 ⟨rfl, hB8⟩
      go_wp2_with fail
      go_ret
      exact ⟨rfl, HB7.out.trans (hB8.mono HB7.out.size)⟩
end Go.Proofs.Ytpjcjnifklgojaa
