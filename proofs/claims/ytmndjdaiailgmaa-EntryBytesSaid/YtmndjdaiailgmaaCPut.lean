/- The program's Put: numbers' bytes, one behind the other. -/
import Derived.Test.YtmndjdaiailgmaaPutV
import Derived.Deep.LoopGhost
namespace Go.Proofs.Ytmndjdaiailgmaa
set_option linter.unusedVariables false
open Go.RowKit
open Go.Lib (hid)

theorem new_one {W : World} {x : Value} {T : TypeId} {g : Nat} (hg : g = W.heap.size) : ∀ (j : Nat) u, [x][j]? = some u → (W.alloc (.cells #[x] T)).cell? ((⟨g, 0, none⟩ : Addr).add j) = some u := by
  intro j u hj
  subst hg
  rw [show (⟨W.heap.size, 0, none⟩ : Addr).add j = ⟨W.heap.size, j, none⟩ from by unfold Addr.add; split <;> simp_all, World.cell?_alloc_new, List.getElem?_toArray]
  exact hj
theorem own_one {w W0 w1 : World} {B : Nat} {v v' : Value} {l : List UInt8} {r : Nat} (hr : r < 256) (hB : Below B w W0) (hsz : B ≤ W0.heap.size) (hlt : ∀ k, v.ownBlock = some k → B ≤ k)
    (hown' : w1.ownsRow B 5 1 v' (l.length + 1) (octs l ++ [.int .u8 r])) (hg : W0.grownBy w1 v.ownBlock) : OwnB w1 B v' (l ++ [UInt8.ofNat r]) ∧ Below B w w1 := by
  refine ⟨?_, hB.grown hg hsz hlt⟩
  unfold OwnB
  rw [octs_append, List.length_append]
  rw [show octs [UInt8.ofNat r] = [.int .u8 r] from by simp [octs, Nat.mod_eq_of_lt hr]]
  exact hown'

set_option maxHeartbeats 1600000 in
set_option maxRecDepth 100000 in
theorem cPutN {v : Value} {l : List Int} {w : World} (h : SlN w v l) (hl : l.length ≤ 3000) : Calls Try.prog 37 #[v] w fun e w' => ∃ r, e = .returned (.tuple #[r, .int .i64 (putE l)]) ∧ OwnB w' w.heap.size r (putB l) ∧ Below w.heap.size w w' := by
  obtain ⟨b, o, cap, a, rfl, ha, hc, hb⟩ := h
  obtain ⟨i0, hi, hz0, hz1, hz2⟩ := info_parts Try.infoB
  go_enter Try.func37, Try.ntmps37
  go_wp2
  go_loopg [4, 9] l.length (fun g u i wr => ∃ (k : Nat) (out : List UInt8), k ≤ l.length ∧ g = l.length - k ∧ i = .int .i64 k ∧ Hid ((l.take k).all in40 = true ∧ out = putAll (l.take k)) ∧ OwnB wr w.heap.size u out ∧ Below w.heap.size w wr)
  case atStart => exact ⟨0, [], Nat.zero_le _, by omega, rfl, ⟨by simp, by simp [putAll]⟩, OwnB.nil _ _, Below.refl _ _⟩
  case round =>
    obtain ⟨k, out, hk, rfl, rfl, hat, hown, hB⟩ := hrel
    have hsz := hB.size
    have hol : out.length ≤ 18000 := by rw [hat.out.2]; have := putAll_len _ hat.out.1; simp at this; omega
    have HB := hid hB
    have HO := hid hown
    by_cases hlt : k < l.length
    · obtain rfl := ha (by omega)
      obtain ⟨x, hx⟩ : ∃ x, l[k]? = some x := ⟨l[k], List.getElem?_eq_getElem hlt⟩
      have hbw := hb (by omega)
      have c0 := (hB.cell (p := ⟨b, o + k, none⟩) hbw).trans (hc k x hx)
      have HX := hid hx
      clear hx hB
      rcases hv : in40 x with _ | _
      · have HE := hid (put_no HX.out hv)
        have hv' := in40_false.1 hv
        clear hv
        by_cases h0 : x < 0
        · clear hv'
          go_wp2
          go_ret2
          refine ⟨.slice none 0 0, ?_, ?_, HB.out⟩
          · rw [HE.out.1]; rfl
          · rw [HE.out.2]; exact OwnB.nil _ _
        · have h1 : 1099511627776 < x := by omega
          clear hv'
          go_wp2
          go_ret2
          refine ⟨.slice none 0 0, ?_, ?_, HB.out⟩
          · rw [HE.out.1]; rfl
          · rw [HE.out.2]; exact OwnB.nil _ _
      · obtain ⟨hx0, hx1⟩ := in40_true.1 hv
        obtain ⟨n, rfl⟩ : ∃ n : Nat, x = n := ⟨x.toNat, by omega⟩
        have hnn : n ≤ 1099511627776 := by omega
        have HN := hid (And.intro (allN_next hat.out.1 HX.out hv) (putAll_next HX.out))
        have hN6 := oneN_six hnn
        clear hv
        go_wp2
        obtain ⟨wo, hwo⟩ : ∃ wo : World, wo = wr := ⟨_, rfl⟩
        go_loopg [4, 6] n (fun g u i W => ∃ (m : Nat) (o2 : List UInt8), g = m ∧ m ≤ n ∧ i = .int .i64 m ∧ Hid (out ++ oneN n = o2 ++ oneN m) ∧ o2.length ≤ 18006 ∧ OwnB W w.heap.size u o2 ∧ Below w.heap.size w W)
        case atStart => exact ⟨n, out, rfl, Nat.le_refl _, rfl, hid rfl, by omega, HO.out, HB.out⟩
        case round =>
          clear hown
          obtain ⟨m, o2, rfl, hmn, rfl, hat2, ho2, hown, hB⟩ := hrel
          have hsz2 := hB.size
          have HB2 := hid hB
          have HO2 := hid hown
          have hol2 : o2.length + (oneN gk).length ≤ out.length + 6 := by have := congrArg List.length hat2.out; simp only [List.length_append] at this; omega
          have hgl : 0 < (oneN gk).length := List.length_pos_iff.2 (oneN_ne _)
          by_cases hm : gk < 128
          · have HM := hid (oneN_small hm)
            have hm' : (gk : Int) < 128 := by omega
            clear hB
            go_wp2_with (at_builtin; refine wpList_append_own _ rfl _ _ 42 rfl w.heap.size 5 i0 _ 1 1 Try.underlying42 hi hz0 hz1 hz2 rfl (by decide) _ _ _ rfl (hown.alloc _) ⟨wr.heap.size, 0, none⟩ 1 1 [.int .u8 gk] rfl rfl (new_one rfl) ?c2 ?c3 ?c4 ?c5 ?_)
            case c2 => first | rfl | trivial | (intro u hu; simp at hu; subst hu; rfl)
            case c3 => unfold maxLen; omega
            case c4 => omega
            case c5 => first | omega | (simp; omega)
            intro v' w2 hown' hgrow _
            have R := own_one (by omega) (HB2.out.alloc hsz2 _) (by simp; omega) (fun k hk => (HO2.out.lt k hk).1) hown' hgrow
            clear hown' hgrow hown
            go_wp2
            go_roundg (l.length - (k + 1))
            case measure => omega
            case rel => exact ⟨k + 1, _, by omega, rfl, by go_num, hid ⟨HN.out.1, by rw [HN.out.2, ← hat.out.2, Int.toNat_natCast, hat2.out, HM.out]⟩, R.1, R.2⟩
          · have HM := hid (oneN_big hm)
            obtain ⟨q, hq⟩ : ∃ q, q = gk / 128 := ⟨_, rfl⟩
            obtain ⟨r, hr⟩ : ∃ r, r = gk % 128 + 128 := ⟨_, rfl⟩
            have hq' : (gk : Int) / 128 = q := by omega
            have hr' : (gk : Int) % 128 + 128 = r := by omega
            have hr256 : (r : Int) < 256 := by omega
            have hm' : ¬ (gk : Int) < 128 := by omega
            have HQ := hid (And.intro hq hr)
            have hql : 0 < (oneN q).length := List.length_pos_iff.2 (oneN_ne _)
            have hol3 : o2.length + 1 + (oneN q).length ≤ out.length + 6 := by have := HM.out; rw [← hq] at this; rw [this] at hol2; simp only [List.length_cons] at hol2; omega
            have hqlt : q < gk := by omega
            clear hq hr hB
            go_wp2_with (at_builtin; refine wpList_append_own _ rfl _ _ 42 rfl w.heap.size 5 i0 _ 1 1 Try.underlying42 hi hz0 hz1 hz2 rfl (by decide) _ _ _ rfl (hown.alloc _) ⟨wr.heap.size, 0, none⟩ 1 1 [.int .u8 r] rfl rfl (new_one rfl) ?c2 ?c3 ?c4 ?c5 ?_)
            case c2 => first | rfl | trivial | (intro u hu; simp at hu; subst hu; rfl)
            case c3 => unfold maxLen; omega
            case c4 => omega
            case c5 => first | omega | (simp; omega)
            intro v' w2 hown' hgrow _
            have R := own_one (by omega) (HB2.out.alloc hsz2 _) (by simp; omega) (fun k hk => (HO2.out.lt k hk).1) hown' hgrow
            clear hown' hgrow hown
            go_wp2
            go_roundg q
            case measure => omega
            case rel => exact ⟨q, _, rfl, by omega, rfl, hid (by rw [hat2.out, HM.out, ← HQ.out.1, ← HQ.out.2, List.append_assoc]; rfl), by simp; omega, R.1, R.2⟩
    · have HE : Hid (putE l = 0 ∧ putB l = out) := hid (by
        have := hat.out
        rw [List.take_of_length_le (by omega)] at this
        rw [this.2]; exact put_ok this.1)
      obtain ⟨g, cap', n, rfl, _⟩ := hown.asSlice
      clear hown
      go_wp2
      go_ret2
      refine ⟨.slice g n cap', ?_, ?_, hB⟩
      · rw [HE.out.1]; rfl
      · rw [HE.out.2]; exact HO.out
end Go.Proofs.Ytmndjdaiailgmaa
