import Derived.Test.YtpkkmfppdhjpkaaGreatGa06
import Derived.Deep.LoopGhost
import Derived.Test.YtpkkmfppdhjpkaaGreatGa08
/- The program's Put: numbers' bytes, one behind the other. -/
namespace Go.Proofs.YtpkkmfppdhjpkaaGreat
set_option linter.unusedVariables false
open Go.RowKit
open Go.Lib (hid)

theorem new_one {W : World} {x : Value} {T : TypeId} {g : Nat} (hg : g = W.heap.size) : ∀ (j : Nat) u, [x][j]? = some u → (W.alloc (.cells #[x] T)).cell? ((⟨g, 0, none⟩ : Addr).add j) = some u := by
  intro j u hj
  subst hg
  rw [show (⟨W.heap.size, 0, none⟩ : Addr).add j = ⟨W.heap.size, j, none⟩ from by unfold Addr.add; split <;> simp_all, World.cell?_alloc_new, List.getElem?_toArray]
  exact hj
theorem own_one {w W0 w1 : World} {B : Nat} {v v' : Value} {l : List UInt8} {r : Nat} (hr : r < 256) (hB : Below B w W0) (hsz : B ≤ W0.heap.size) (hlt : ∀ k, v.ownBlock = some k → B ≤ k)
    (hown' : w1.ownsRow B 5 1 v' (l.length + 1) (octs l ++ [.int .u8 r])) (hg : W0.grownBy w1 v.ownBlock) : OwnB w1 B v' (l ++ [UInt8.ofNat r]) ∧ Below B w w1 := by
  refine ⟨?_, hB.grown hg hsz hlt⟩
  unfold OwnB
  rw [octs_append, List.length_append]
  rw [show octs [UInt8.ofNat r] = [.int .u8 r] from by simp [octs, Nat.mod_eq_of_lt hr]]
  exact hown'

set_option maxHeartbeats 1600000 in
set_option maxRecDepth 100000 in
theorem cPutN {v : Value} {l : List Int} {w : World} (h : SlN w v l) (hl : l.length ≤ 3000) : Calls Tryz.prog 53 #[v] w fun e w' => ∃ r, e = .returned (.tuple #[r, .int .i64 (putE l)]) ∧ OwnB w' w.heap.size r (putB l) ∧ Below w.heap.size w w' := by
  obtain ⟨b, o, cap, a, rfl, ha, hc, hb⟩ := h
  obtain ⟨i0, hi, hz0, hz1, hz2⟩ := info_parts Tryz.infoB
  go_enter Tryz.func53, Tryz.ntmps53
  go_wp2
  go_loopg [4, 9] l.length (fun g u i wr => ∃ (k : Nat) (out : List UInt8), k ≤ l.length ∧ g = l.length - k ∧ i = .int .i64 k ∧ Hid ((l.take k).all in40 = true ∧ out = putAll (l.take k)) ∧ OwnB wr w.heap.size u out ∧ Below w.heap.size w wr)
  case atStart => exact ⟨0, [], Nat.zero_le _, by omega, rfl, ⟨by simp, by simp [putAll]⟩, OwnB.nil _ _, Below.refl _ _⟩
  case round =>
    obtain ⟨k, out, hk, rfl, rfl, hat, hown, hB⟩ := hrel
    have hsz := hB.size
    have hol : out.length ≤ 18000 := by rw [hat.out.2]; have := putAll_len _ hat.out.1; simp at this; omega
    have HB := hid hB
    have HO := hid hown
    by_cases hlt : k < l.length
    · obtain rfl := ha (by omega)
      obtain ⟨x, hx⟩ : ∃ x, l[k]? = some x := ⟨l[k], List.getElem?_eq_getElem hlt⟩
      have hbw := hb (by omega)
      have c0 := (hB.cell (p := ⟨b, o + k, none⟩) hbw).trans (hc k x hx)
      have HX := hid hx
      clear hx hB
      rcases hv : in40 x with _ | _
      · have HE := hid (put_no HX.out hv)
        have hv' := in40_false.1 hv
        clear hv
        by_cases h0 : x < 0
        · clear hv'
          go_wp2
          go_ret2
          refine ⟨.slice none 0 0, ?_, ?_, HB.out⟩
          · rw [HE.out.1]; rfl
          · rw [HE.out.2]; exact OwnB.nil _ _
        · have h1 : 1099511627776 < x := by omega
          clear hv'
          go_wp2
          go_ret2
          refine ⟨.slice none 0 0, ?_, ?_, HB.out⟩
          · rw [HE.out.1]; rfl
          · rw [HE.out.2]; exact OwnB.nil _ _
      · obtain ⟨hx0, hx1⟩ := in40_true.1 hv
        obtain ⟨n, rfl⟩ : ∃ n : Nat, x = n := ⟨x.toNat, by omega⟩
        have hnn : n ≤ 1099511627776 := by omega
        have HN := hid (And.intro (allN_next hat.out.1 HX.out hv) (putAll_next HX.out))
        have hN6 := oneN_six hnn
        clear hv
        go_wp2
        obtain ⟨wo, hwo⟩ : ∃ wo : World, wo = wr := ⟨_, rfl⟩
        go_loopg [4, 6] n (fun g u i W => ∃ (m : Nat) (o2 : List UInt8), g = m ∧ m ≤ n ∧ i = .int .i64 m ∧ Hid (out ++ oneN n = o2 ++ oneN m) ∧ o2.length ≤ 18006 ∧ OwnB W w.heap.size u o2 ∧ Below w.heap.size w W)
        case atStart => exact ⟨n, out, rfl, Nat.le_refl _, rfl, hid rfl, by omega, HO.out, HB.out⟩
        case round =>
          clear hown
          obtain ⟨m, o2, rfl, hmn, rfl, hat2, ho2, hown, hB⟩ := hrel
          have hsz2 := hB.size
          have HB2 := hid hB
          have HO2 := hid hown
          have hol2 : o2.length + (oneN gk).length ≤ out.length + 6 := by have := congrArg List.length hat2.out; simp only [List.length_append] at this; omega
          have hgl : 0 < (oneN gk).length := List.length_pos_iff.2 (oneN_ne _)
          by_cases hm : gk < 128
          · have HM := hid (oneN_small hm)
            have hm' : (gk : Int) < 128 := by omega
            clear hB
            go_wp2_with (at_builtin; refine wpList_append_own _ rfl _ _ 63 rfl w.heap.size 5 i0 _ 1 1 Tryz.underlying63 hi hz0 hz1 hz2 rfl (by decide) _ _ _ rfl (hown.alloc _) ⟨wr.heap.size, 0, none⟩ 1 1 [.int .u8 gk] rfl rfl (new_one rfl) ?c2 ?c3 ?c4 ?c5 ?_)
            case c2 => first | rfl | trivial | (intro u hu; simp at hu; subst hu; rfl)
            case c3 => unfold maxLen; omega
            case c4 => omega
            case c5 => first | omega | (simp; omega)
            intro v' w2 hown' hgrow _
            have R := own_one (by omega) (HB2.out.alloc hsz2 _) (by simp; omega) (fun k hk => (HO2.out.lt k hk).1) hown' hgrow
            clear hown' hgrow hown
            go_wp2
            go_roundg (l.length - (k + 1))
            case measure => omega
            case rel => exact ⟨k + 1, _, by omega, rfl, by go_num, hid ⟨HN.out.1, by rw [HN.out.2, ← hat.out.2, Int.toNat_natCast, hat2.out, HM.out]⟩, R.1, R.2⟩
          · have HM := hid (oneN_big hm)
            obtain ⟨q, hq⟩ : ∃ q, q = gk / 128 := ⟨_, rfl⟩
            obtain ⟨r, hr⟩ : ∃ r, r = gk % 128 + 128 := ⟨_, rfl⟩
            have hq' : (gk : Int) / 128 = q := by omega
            have hr' : (gk : Int) % 128 + 128 = r := by omega
            have hr256 : (r : Int) < 256 := by omega
            have hm' : ¬ (gk : Int) < 128 := by omega
            have HQ := hid (And.intro hq hr)
            have hql : 0 < (oneN q).length := List.length_pos_iff.2 (oneN_ne _)
            have hol3 : o2.length + 1 + (oneN q).length ≤ out.length + 6 := by have := HM.out; rw [← hq] at this; rw [this] at hol2; simp only [List.length_cons] at hol2; omega
            have hqlt : q < gk := by omega
            clear hq hr hB
            go_wp2_with (at_builtin; refine wpList_append_own _ rfl _ _ 63 rfl w.heap.size 5 i0 _ 1 1 Tryz.underlying63 hi hz0 hz1 hz2 rfl (by decide) _ _ _ rfl (hown.alloc _) ⟨wr.heap.size, 0, none⟩ 1 1 [.int .u8 r] rfl rfl (new_one rfl) ?c2 ?c3 ?c4 ?c5 ?_)
            case c2 => first | rfl | trivial | (intro u hu; simp at hu; subst hu; rfl)
            case c3 => unfold maxLen; omega
            case c4 => omega
            case c5 => first | omega | (simp; omega)
            intro v' w2 hown' hgrow _
            have R := own_one (by omega) (HB2.out.alloc hsz2 _) (by simp; omega) (fun k hk => (HO2.out.lt k hk).1) hown' hgrow
            clear hown' hgrow hown
            go_wp2
            go_roundg q
            case measure => omega
            case rel => exact ⟨q, _, rfl, by omega, rfl, hid (by rw [hat2.out, HM.out, ← HQ.out.1, ← HQ.out.2, List.append_assoc]; rfl), by simp; omega, R.1, R.2⟩
    · have HE : Hid (putE l = 0 ∧ putB l = out) := hid (by
        have := hat.out
        rw [List.take_of_length_le (by omega)] at this
        rw [this.2]; exact put_ok this.1)
      obtain ⟨g, cap', n, rfl, _⟩ := hown.asSlice
      clear hown
      go_wp2
      go_ret2
      refine ⟨.slice g n cap', ?_, ?_, hB⟩
      · rw [HE.out.1]; rfl
      · rw [HE.out.2]; exact HO.out
end Go.Proofs.YtpkkmfppdhjpkaaGreat
/- The program's numbers: how many commands there are, and each one's numbers. -/

namespace Go.Proofs.YtpkkmfppdhjpkaaGreat
set_option linter.unusedVariables false
open Go.RowKit
open Go.Lib (hid)

set_option maxHeartbeats 1600000 in
set_option maxRecDepth 100000 in
theorem cNumbers {v : Value} {cs : List C7} {w : World} (h : Sl w v cs) (hl : cs.length ≤ 1024) : Calls Tryz.prog 93 #[v] w fun e w' => ∃ r, e = .returned r ∧ OwnN w' w.heap.size r ((cs.length : Int) :: numsAll cs) ∧ Below w.heap.size w w' := by
  obtain ⟨b, o, cap, a, rfl, _, ha, hc, hb⟩ := h
  obtain ⟨i0, hi, hz0, hz1, hz2⟩ := info_parts Tryz.infoI
  go_enter Tryz.func93, Tryz.ntmps93
  go_wp2
  have hlit := OwnN.lit w (cs.length : Int)
  go_loopw [3, 11] (fun u i wr => ∃ (k : Nat) (l : List Int), k ≤ cs.length ∧ i = .int .i64 k ∧ Hid (l = (cs.length : Int) :: numsAll (cs.take k)) ∧ OwnN wr w.heap.size u l ∧ Below w.heap.size w wr) (fun _ i _ => cs.length - (intOf i).toNat)
  case atStart => exact ⟨0, [(cs.length : Int)], Nat.zero_le _, rfl, hid (by simp [numsAll]), hlit, (Below.refl _ w).alloc (Nat.le_refl _) _⟩
  case round =>
    clear hlit
    obtain ⟨k, l, hk, rfl, hat, hown, hB⟩ := hrel
    have hsz := hB.size
    have hll : l.length = 1 + 7 * k := by rw [hat.out, List.length_cons, numsAll_len, List.length_take]; omega
    have HB := hid hB
    have HO := hid hown
    by_cases hlt : k < cs.length
    · obtain rfl := ha (by omega)
      obtain ⟨c, hcc⟩ : ∃ c, cs[k]? = some c := ⟨cs[k], List.getElem?_eq_getElem hlt⟩
      have hbw := hb (by omega)
      obtain ⟨c0, c1, c2, c3, c4, c5, c6⟩ := (hc.on hB hbw).at hcc
      have HC := hid hcc
      have HL := hid hll
      clear hcc hB hll
      go_wp2_with (at_builtin; refine wpList_append_own _ rfl _ _ 120 rfl w.heap.size 3 i0 _ 1 8 Tryz.underlying120 hi hz0 hz1 hz2 rfl (by decide) _ _ _ rfl ((hown.alloc _).alloc _) ⟨wr.heap.size + 1, 0, none⟩ 7 7 [.int .i64 c.i, .int .i64 c.k, .int .i64 c.s, .int .i64 c.t, .int .i64 c.d, .int .i64 c.p, .int .i64 c.q] rfl rfl ?c1 ?c2 ?c3 ?c4 ?c5 ?_)
      case c2 => exact ⟨rfl, rfl, rfl, rfl, rfl, rfl, rfl⟩
      case c3 => have := HL.out; unfold maxLen; omega
      case c4 => have := HL.out; omega
      case c5 => first | omega | (simp; omega)
      intro v' w2 hown' hgrow _
      have R := OwnN.grows (b := c.nums) ((HB.out.alloc hsz _).alloc (by simp; omega) _) (by simp; omega) (fun k hk => (HO.out.lt k hk).1) hown' rfl hgrow
      clear hown' hgrow hown
      go_wp2
      go_roundw
      case rel => exact ⟨k + 1, _, by omega, by go_num, hid (by rw [hat.out, numsAll_next HC.out, List.cons_append]), R.1, R.2⟩
      case measure => simp [intOf]; omega
    · have HL := hid (show l = (cs.length : Int) :: numsAll cs from by rw [hat.out, List.take_of_length_le (by omega)])
      clear hown
      go_wp2
      go_ret
      exact ⟨_, rfl, by rw [← HL.out]; exact HO.out, hB⟩
end Go.Proofs.YtpkkmfppdhjpkaaGreat
/- The program's PutCmds and PutValue: commands' bytes, a value's. -/

namespace Go.Proofs.YtpkkmfppdhjpkaaGreat
set_option linter.unusedVariables false
open Go.RowKit
open Go.Lib (hid)

set_option maxHeartbeats 1600000 in
set_option maxRecDepth 100000 in
theorem cPutCmds {v : Value} {cs : List C7} {w : World} (h : Sl w v cs) (hl : cs.length ≤ 400) : Calls Tryz.prog 94 #[v] w fun e w' => ∃ r, e = .returned (.tuple #[r, .int .i64 (putCE cs)]) ∧ OwnB w' w.heap.size r (putCB cs) ∧ Below w.heap.size w w' := by
  have H := hid h
  have hR := cRight' h (by omega)
  obtain ⟨b, o, cap, a, rfl, _, ha, hc, hb⟩ := h
  rcases hok : cs.all C7.ok with _ | _
  · rw [hok] at hR
    have HE := hid (putC_no (cs := cs) (fun hh => by rw [hok] at hh; exact absurd hh.1 (by simp)))
    clear hok
    go_enter Tryz.func94, Tryz.ntmps94
    go_wp2_with (go_at_call 40; refine hR.mono ?_; rintro e w' ⟨rfl, hB⟩)
    go_ret2
    refine ⟨.slice none 0 0, ?_, ?_, hB⟩
    · rw [HE.out.1]; rfl
    · rw [HE.out.2]; exact OwnB.nil _ _
  · rw [hok] at hR
    have HE := hid (putC_ok hok (by omega))
    have HP := hid (numsAll_put hok (by omega))
    clear hok
    go_enter Tryz.func94, Tryz.ntmps94
    go_wp2_with (go_at_call 40; refine hR.mono ?_; rintro e w0 ⟨rfl, hB0⟩)
    have hN := cNumbers (H.out.on hB0) (by omega)
    have hs0 := hB0.size
    have HB0 := hid hB0
    clear hB0
    go_wp2_with (go_at_call 93; refine hN.mono ?_; rintro e w1 ⟨r, rfl, hown, hB1⟩)
    have hP := cPutN hown.sl (by rw [List.length_cons, numsAll_len]; omega)
    rw [HP.out.1, HP.out.2] at hP
    have hs1 := hB1.size
    have HB1 := hid (HB0.out.trans (hB1.mono hs0))
    clear hown hB1
    go_wp2_with (go_at_call 53; refine hP.mono ?_; rintro e w3 ⟨r3, rfl, hown3, hB3⟩)
    go_ret2
    refine ⟨r3, ?_, ?_, HB1.out.trans (hB3.mono (by omega))⟩
    · rw [HE.out.1]; rfl
    · rw [HE.out.2]; exact own_monoB hown3 (by omega)

theorem putV_put {t : Int} {cs : List C7} (h : setB cs = true) : putE ([t] ++ ((cs.length : Int) :: numsAll cs)) = putVE t cs ∧ putB ([t] ++ ((cs.length : Int) :: numsAll cs)) = putVB t cs := by
  obtain ⟨hok, hln⟩ := setB_ok h
  rw [List.singleton_append]
  rcases ht : in40 t with _ | _
  · have h1 := putV_no (t := t) (cs := cs) (fun hh => by rw [ht] at hh; exact absurd hh.2 (by simp))
    have h2 := put_no (l := t :: ((cs.length : Int) :: numsAll cs)) (k := 0) rfl ht
    exact ⟨h2.1.trans h1.1.symm, h2.2.trans h1.2.symm⟩
  · have h1 := putV_ok h ht
    have hp := numsAll_put hok hln
    have ha : ((cs.length : Int) :: numsAll cs).all in40 = true := by
      have := hp.1
      unfold putE at this
      split at this
      · assumption
      · cases this
    have hp2 := (put_ok ha).2
    have h2 := put_ok (l := t :: ((cs.length : Int) :: numsAll cs)) (by rw [List.all_cons, ht, ha]; rfl)
    refine ⟨h2.1.trans h1.1.symm, h2.2.trans ?_⟩
    rw [h1.2]
    unfold valueBytes
    rw [← hp.2, hp2]
    unfold putAll
    rw [List.flatMap_cons]

set_option maxHeartbeats 1600000 in
set_option maxRecDepth 100000 in
theorem cPutValue {v : Value} {cs : List C7} {w : World} (t : Int) (h : Sl w v cs) (hl : cs.length ≤ 400) : Calls Tryz.prog 71 #[.agg #[.int .i64 t, v]] w fun e w' => ∃ r, e = .returned (.tuple #[r, .int .i64 (putVE t cs)]) ∧ OwnB w' w.heap.size r (putVB t cs) ∧ Below w.heap.size w w' := by
  have H := hid h
  have hR := fun W (hB : Below w.heap.size w W) => cSetRight (H.out.on hB) (by omega)
  obtain ⟨_, _, cap, a, rfl, _⟩ := h
  obtain ⟨i0, hi, hz0, hz1, hz2⟩ := info_parts Tryz.infoI
  rcases hs : setB cs with _ | _
  · have HE := hid (putV_no (t := t) (cs := cs) (fun hh => by rw [hs] at hh; exact absurd hh.1 (by simp)))
    rw [hs] at hR
    clear hs
    go_enter Tryz.func71, Tryz.ntmps71
    go_wp2_with (go_at_call 88; refine (hR _ ((Below.refl _ w).alloc (Nat.le_refl _) _)).mono ?_; rintro e w1 ⟨rfl, hB⟩; obtain ⟨hcell, hz, hBw⟩ := box_cells hB; have HB := hid hBw; clear hB hcell hBw)
    go_ret2
    refine ⟨.slice none 0 0, ?_, ?_, HB.out⟩
    · rw [HE.out.1]; rfl
    · rw [HE.out.2]; exact OwnB.nil _ _
  · rw [hs] at hR
    have HP := hid (putV_put (t := t) hs)
    clear hs
    go_enter Tryz.func71, Tryz.ntmps71
    go_wp2_with (go_at_call 88; refine (hR _ ((Below.refl _ w).alloc (Nat.le_refl _) _)).mono ?_; rintro e w1 ⟨rfl, hB⟩; obtain ⟨hcell, hz, hBw⟩ := box_cells hB; have k0 : w1.cell? ⟨w.heap.size, 0, none⟩ = some (.int .i64 t) := hcell 0; have k1 : w1.cell? ⟨w.heap.size, 1, none⟩ = some (.slice a cs.length cap) := hcell 1; have HB := hid hBw; have hs1 := hB.size; clear hB hcell hBw)
    have hN := cNumbers (H.out.on (HB.out.alloc HB.out.size (.cells #[.int .i64 t] 3))) (by omega)
    have hlit := hid (OwnN.lit w1 t)
    have hsw := HB.out.size
    simp at hs1
    go_wp2_with (first | (go_at_call 93; refine hN.mono ?_; rintro e w2 ⟨r, rfl, hown, hB2⟩; obtain ⟨g, cg, rfl⟩ : ∃ g cg, r = .slice (some ⟨g, 0, none⟩) (1 + 7 * cs.length) cg := (by
          rcases hown.2 with ⟨_, h0⟩ | ⟨g, cg, cur, e, _⟩
          · rw [List.length_cons] at h0; omega
          · exact ⟨g, cg, by rw [e, List.length_cons, numsAll_len, Nat.add_comm]⟩); have hs2 := hB2.size; have h0 := own_below hlit.out hB2 (fun k hk => by cases hk; simp); have HO := hid (And.intro hown (And.intro hB2 h0)); clear hown hB2 h0) | (at_builtin; refine wpList_append_own _ rfl _ _ 120 rfl w.heap.size 3 i0 _ 1 8 Tryz.underlying120 hi hz0 hz1 hz2 rfl (by decide) _ _ _ rfl (own_monoB HO.out.2.2 hsw) ⟨g, 0, none⟩ (1 + 7 * cs.length) cg (ints ((cs.length : Int) :: numsAll cs)) rfl ?c0 ?c1 ?c2 ?c3 ?c4 ?c5 ?_))
    case c0 => rw [ints_len, List.length_cons, numsAll_len]; omega
    case c1 => exact HO.out.1.cells rfl
    case c2 => exact ints_one _
    case c3 => unfold maxLen; simp only [List.length_singleton]; omega
    case c4 => simp only [List.length_singleton]; omega
    case c5 => simp at hs2; omega
    intro v' w3 hown' hgrow _
    have R := OwnN.grows (a := [t]) (b := (cs.length : Int) :: numsAll cs) ((HB.out.alloc hsw _).trans (HO.out.2.1.mono (by simp; omega))) (by simp at hs2; omega) (fun k hk => by cases hk; exact hsw) hown' (by simp [numsAll_len]; omega) hgrow
    obtain ⟨gv, cv, nv, rfl, hnv⟩ := OwnN.asSlice R.1
    clear hown' hgrow hnv
    have hP := cPutN (OwnN.sl R.1) (by simp [numsAll_len]; omega)
    rw [HP.out.1, HP.out.2] at hP
    have hs3 := R.2.size
    have HR := hid R
    clear R
    go_wp2_with (go_at_call 53; refine hP.mono ?_; rintro e w4 ⟨r4, rfl, hown4, hB4⟩)
    go_ret2
    exact ⟨r4, rfl, own_monoB hown4 hs3, HR.out.2.trans (hB4.mono hs3)⟩
end Go.Proofs.YtpkkmfppdhjpkaaGreat
/- The program's PutValue, of as many commands as 3000 bytes can hold. -/
namespace Go.Proofs.YtpkkmfppdhjpkaaGreat
set_option linter.unusedVariables false
open Go.RowKit
open Go.Lib (hid)

set_option maxHeartbeats 1600000 in
set_option maxRecDepth 100000 in
theorem cPutValueL {v : Value} {cs : List C7} {w : World} (t : Int) (h : Sl w v cs) (hl : cs.length ≤ 428) : Calls Tryz.prog 71 #[.agg #[.int .i64 t, v]] w fun e w' => ∃ r, e = .returned (.tuple #[r, .int .i64 (putVE t cs)]) ∧ OwnB w' w.heap.size r (putVB t cs) ∧ Below w.heap.size w w' := by
  have H := hid h
  have hR := fun W (hB : Below w.heap.size w W) => cSetRight (H.out.on hB) (by omega)
  obtain ⟨_, _, cap, a, rfl, _⟩ := h
  obtain ⟨i0, hi, hz0, hz1, hz2⟩ := info_parts Tryz.infoI
  rcases hs : setB cs with _ | _
  · have HE := hid (putV_no (t := t) (cs := cs) (fun hh => by rw [hs] at hh; exact absurd hh.1 (by simp)))
    rw [hs] at hR
    clear hs
    go_enter Tryz.func71, Tryz.ntmps71
    go_wp2_with (go_at_call 88; refine (hR _ ((Below.refl _ w).alloc (Nat.le_refl _) _)).mono ?_; rintro e w1 ⟨rfl, hB⟩; obtain ⟨hcell, hz, hBw⟩ := box_cells hB; have HB := hid hBw; clear hB hcell hBw)
    go_ret2
    refine ⟨.slice none 0 0, ?_, ?_, HB.out⟩
    · rw [HE.out.1]; rfl
    · rw [HE.out.2]; exact OwnB.nil _ _
  · rw [hs] at hR
    have HP := hid (putV_put (t := t) hs)
    clear hs
    go_enter Tryz.func71, Tryz.ntmps71
    go_wp2_with (go_at_call 88; refine (hR _ ((Below.refl _ w).alloc (Nat.le_refl _) _)).mono ?_; rintro e w1 ⟨rfl, hB⟩; obtain ⟨hcell, hz, hBw⟩ := box_cells hB; have k0 : w1.cell? ⟨w.heap.size, 0, none⟩ = some (.int .i64 t) := hcell 0; have k1 : w1.cell? ⟨w.heap.size, 1, none⟩ = some (.slice a cs.length cap) := hcell 1; have HB := hid hBw; have hs1 := hB.size; clear hB hcell hBw)
    have hN := cNumbers (H.out.on (HB.out.alloc HB.out.size (.cells #[.int .i64 t] 3))) (by omega)
    have hlit := hid (OwnN.lit w1 t)
    have hsw := HB.out.size
    simp at hs1
    go_wp2_with (first | (go_at_call 93; refine hN.mono ?_; rintro e w2 ⟨r, rfl, hown, hB2⟩; obtain ⟨g, cg, rfl⟩ : ∃ g cg, r = .slice (some ⟨g, 0, none⟩) (1 + 7 * cs.length) cg := (by
          rcases hown.2 with ⟨_, h0⟩ | ⟨g, cg, cur, e, _⟩
          · rw [List.length_cons] at h0; omega
          · exact ⟨g, cg, by rw [e, List.length_cons, numsAll_len, Nat.add_comm]⟩); have hs2 := hB2.size; have h0 := own_below hlit.out hB2 (fun k hk => by cases hk; simp); have HO := hid (And.intro hown (And.intro hB2 h0)); clear hown hB2 h0) | (at_builtin; refine wpList_append_own _ rfl _ _ 120 rfl w.heap.size 3 i0 _ 1 8 Tryz.underlying120 hi hz0 hz1 hz2 rfl (by decide) _ _ _ rfl (own_monoB HO.out.2.2 hsw) ⟨g, 0, none⟩ (1 + 7 * cs.length) cg (ints ((cs.length : Int) :: numsAll cs)) rfl ?c0 ?c1 ?c2 ?c3 ?c4 ?c5 ?_))
    case c0 => rw [ints_len, List.length_cons, numsAll_len]; omega
    case c1 => exact HO.out.1.cells rfl
    case c2 => exact ints_one _
    case c3 => unfold maxLen; simp only [List.length_singleton]; omega
    case c4 => simp only [List.length_singleton]; omega
    case c5 => simp at hs2; omega
    intro v' w3 hown' hgrow _
    have R := OwnN.grows (a := [t]) (b := (cs.length : Int) :: numsAll cs) ((HB.out.alloc hsw _).trans (HO.out.2.1.mono (by simp; omega))) (by simp at hs2; omega) (fun k hk => by cases hk; exact hsw) hown' (by simp [numsAll_len]; omega) hgrow
    obtain ⟨gv, cv, nv, rfl, hnv⟩ := OwnN.asSlice R.1
    clear hown' hgrow hnv
    have hP := cPutN (OwnN.sl R.1) (by simp [numsAll_len]; omega)
    rw [HP.out.1, HP.out.2] at hP
    have hs3 := R.2.size
    have HR := hid R
    clear R
    go_wp2_with (go_at_call 53; refine hP.mono ?_; rintro e w4 ⟨r4, rfl, hown4, hB4⟩)
    go_ret2
    exact ⟨r4, rfl, own_monoB hown4 hs3, HR.out.2.trans (hB4.mono hs3)⟩
end Go.Proofs.YtpkkmfppdhjpkaaGreat
