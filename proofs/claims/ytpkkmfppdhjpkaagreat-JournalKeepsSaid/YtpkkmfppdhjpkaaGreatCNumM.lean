import Derived.Test.YtpkkmfppdhjpkaaGreatGa18
/- The program's reader: Num: the number that comes is taken, by a goto; what goes wrong is told. -/
namespace Go.Proofs.YtpkkmfppdhjpkaaGreat
set_option linter.unusedVariables false
open Go.RowKit
open Go.Lib (hid)
def slotI : Value → Int | .int _ q => q | _ => 0
def JNum (w : World) (p : Nat) (l : List UInt8) (a' : Act) (w' : World) : Prop :=
  ∃ k acc : Nat, 1 ≤ k ∧ k ≤ 6 ∧ k ≤ l.length ∧ w' = w ∧ acc < 128 ^ k ∧ Hid (numOf l = numGo (6 - k) k (128 ^ k) acc (l.drop k)) ∧ ∃ u1 u3 u4 u5 u6 u7 u8 u9 u10 u11 u12 u13 u14 u15 u16 u17 u18 u19 u20 u21 u22 u23 u24 u25 u26 u27 u28 u29 u30 u31 u32 u33 u34 u35 u36 u37 u38 u39 u40 u41 u42 u43 u44 u45 u46 u47 u48 u49 u50 u51 u52 u53 u54 u55 u56 u57 u58 u59 u60 u61 u62 u63 u64 : Value, a' = { tmps := #[ptr p, u1, .int .i64 0, u3, u4, u5, u6, u7, u8, u9, u10, u11, u12, u13, u14, u15, u16, u17, u18, u19, u20, u21, u22, u23, u24, u25, u26, u27, u28, u29, u30, u31, u32, u33, u34, u35, u36, u37, u38, u39, u40, u41, u42, u43, u44, u45, u46, u47, u48, u49, u50, u51, u52, u53, u54, u55, u56, u57, u58, u59, u60, u61, u62, u63, u64], defers := [] } ∧ u3 = .int .i64 acc ∧ u4 = .int .i64 k
set_option maxHeartbeats 8000000 in
set_option maxRecDepth 100000 in
theorem cNum {F : Nat → Prop} {p : Nat} {s : St} {w : World} (h : Rd 115 F w p s) : Calls Tryz.prog 45 #[ptr p] w fun x w' => x = .returned (.int .i64 (numS s).1) ∧ Rd 115 F w' p (numS s).2 ∧ w.grownBy w' (some p) := by
  have HR := hid h
  have HF := hid (fun e => cFail h e)
  have hE := cErr h
  have hnF := h.out
  obtain ⟨l, e⟩ := s
  obtain ⟨v, hp, hlt, c0, c1, f0, f1, hs, hvF⟩ := h.cells
  have HP := hid hp
  clear hp h
  by_cases he : e = 0
  · subst he
    obtain ⟨b, o, cap, a, rfl, hn, hc, ha, hcl, hb⟩ := hs
    dsimp only at *
    go_enter Tryz.func45, Tryz.ntmps45
    go_wp2
    refine wp_scope_jumps 0 (JNum w p l) (fun a' _ => 6 - (slotI (a'.tmps.getD 4 undef)).toNat) rfl ?_ ?_
    · go_wp2_with (go_at_call 46; refine hE.mono ?_; rintro e w' ⟨rfl, rfl⟩)
      have hat : Hid (numOf l = numGo 6 0 1 0 (l.drop 0)) := hid rfl
      go_step3
      by_cases hkn : 0 < l.length
      · obtain ⟨x, hx⟩ : ∃ x, l[0]? = some x := ⟨l[0], List.getElem?_eq_getElem hkn⟩
        obtain rfl := ha (by omega)
        have d0 := hcl 0 x hx
        rw [Nat.add_zero] at d0
        have hat2 := hid (by have := hat.out; rw [drop_at hx] at this; exact this)
        have hbl := hb (by omega)
        have HL := hid hkn
        have hneq : ¬ ((0 : Int) = (l.length : Int)) := by omega
        have HC := hid hcl
        clear hx hat hcl
        have hxl := x.toNat_lt
        by_cases hx : x.toNat < 128
        · obtain ⟨aa, haa⟩ : ∃ aa, aa = 0 + x.toNat * 1 := ⟨_, rfl⟩
          have HE := hid (numS_got (s := (l, 0)) rfl (hat2.out.trans (numGo_lo hx (by omega))))
          have hbq : Hid (b ≠ p) := hid (by intro hh; subst hh; exact hnF (hvF _ rfl))
          have HV := hid (And.intro hvF hnF)
          have HD := hid (fun (w0 : World) => SlB.drop (w := w0) (b := b) (o := o) (cap := cap) (l := l) 1 (by omega) (by omega))
          clear hat2 hvF hnF
          by_cases hz : x.toNat = 0
          all_goals (
            go_wp2_with (go_at_call 66; refine (HF.out 2).mono ?_; rintro e w' ⟨rfl, hR, hg⟩)
            all_goals (
              simp only [Exit.jump]
              go_ret
              rw [HE.out]
              refine ⟨retI (by (try dsimp only); omega), ⟨_, set0 HP.out, ?_, fun k hk => HV.out.1 k hk, HV.out.2⟩, grownSet _ _ _⟩
              first
                | exact SlB.nothing (by rw [List.length_drop]; omega) (by omega) (by omega)
                | (refine SlB.of (HD.out _ (fun j y hj => (cellSet hbl hbq.out).trans (HC.out j y hj)) hc (by simpa [World.setCell] using hbl)) ?_
                   first | rfl | (congr 3 <;> omega))))
        · obtain ⟨aa, haa⟩ : ∃ aa, aa = 0 + x.toNat % 128 * 1 := ⟨_, rfl⟩
          have hat3 : Hid (numOf l = numGo (6 - 1) 1 (128 ^ 1) aa (l.drop 1)) := hid (by rw [hat2.out, numGo_hi hx, haa])
          clear hat2
          go_wp2_with (go_at_call 66; refine (HF.out 2).mono ?_; rintro e w' ⟨rfl, hR, hg⟩)
          go_step3
          refine ⟨rfl, 1, aa, by omega, by omega, by omega, rfl, by rw [haa]; omega, hat3, ?_⟩
          (repeat apply Exists.intro)
          exact ⟨rfl, by congr 1; omega, by congr 1⟩
      · have hlK : (l.length : Int) = 0 := by omega
        have hlN : l.length = 0 := by omega
        have HE := hid (numS_cut (s := (l, 0)) rfl (by rw [hat.out, List.drop_eq_nil_of_le (by omega)]; rfl))
        clear hat
        go_wp2_with (go_at_call 66; refine (HF.out 3).mono ?_; rintro e w' ⟨rfl, hR, hg⟩)
        simp only [Exit.jump]
        go_ret
        rw [HE.out]
        exact ⟨rfl, hR, hg⟩
    · rintro a' w' ⟨k, acc, hk1, hk6, hkl, rfl, hacc, hat, u1, u3, u4, u5, u6, u7, u8, u9, u10, u11, u12, u13, u14, u15, u16, u17, u18, u19, u20, u21, u22, u23, u24, u25, u26, u27, u28, u29, u30, u31, u32, u33, u34, u35, u36, u37, u38, u39, u40, u41, u42, u43, u44, u45, u46, u47, u48, u49, u50, u51, u52, u53, u54, u55, u56, u57, u58, u59, u60, u61, u62, u63, u64, rfl, rfl, rfl⟩
      rcases (by omega : k = 1 ∨ k = 2 ∨ k = 3 ∨ k = 4 ∨ k = 5 ∨ k = 6) with rfl | rfl | rfl | rfl | rfl | rfl
      · have hacc : acc < 128 := by simpa using hacc
        have hat : Hid (numOf l = numGo 5 1 128 acc (l.drop 1)) := hat
        clear hk1 hk6
        by_cases hkn : 1 < l.length
        · obtain ⟨x, hx⟩ : ∃ x, l[1]? = some x := ⟨l[1], List.getElem?_eq_getElem hkn⟩
          obtain rfl := ha (by omega)
          have d0 := hcl 1 x hx
          have hat2 := hid (by have := hat.out; rw [drop_at hx] at this; exact this)
          have hbl := hb (by omega)
          have HL := hid hkn
          have hneq : ¬ ((1 : Int) = (l.length : Int)) := by omega
          have HC := hid hcl
          clear hx hat hcl
          have hxl := x.toNat_lt
          by_cases hx : x.toNat < 128
          · obtain ⟨aa, haa⟩ : ∃ aa, aa = acc + x.toNat * 128 := ⟨_, rfl⟩
            by_cases hz : x.toNat = 0
            · have HE := hid (numS_form (s := (l, 0)) rfl (hat2.out.trans (numGo_form hx (.inl ⟨by omega, hz⟩))))
              clear haa
              go_wp2_with (go_at_call 66; refine (HF.out 2).mono ?_; rintro e w' ⟨rfl, hR, hg⟩)
              simp only [Exit.jump]
              go_ret
              rw [HE.out]
              exact ⟨rfl, hR, hg⟩
            · have hz' : ¬ ((x.toNat : Int) = 0) := by omega
              have HE := hid (numS_got (s := (l, 0)) rfl (hat2.out.trans (numGo_lo hx (by omega))))
              have hbq : Hid (b ≠ p) := hid (by intro hh; subst hh; exact hnF (hvF _ rfl))
              have HV := hid (And.intro hvF hnF)
              have HD := hid (fun (w0 : World) => SlB.drop (w := w0) (b := b) (o := o) (cap := cap) (l := l) 2 (by omega) (by omega))
              clear hat2 hvF hnF
              skip
              all_goals (
                go_wp2_with (go_at_call 66; refine (HF.out 2).mono ?_; rintro e w' ⟨rfl, hR, hg⟩)
                all_goals (
                  simp only [Exit.jump]
                  go_ret
                  rw [HE.out]
                  refine ⟨retI (by (try dsimp only); omega), ⟨_, set0 HP.out, ?_, fun k hk => HV.out.1 k hk, HV.out.2⟩, grownSet _ _ _⟩
                  first
                    | exact SlB.nothing (by rw [List.length_drop]; omega) (by omega) (by omega)
                    | (refine SlB.of (HD.out _ (fun j y hj => (cellSet hbl hbq.out).trans (HC.out j y hj)) hc (by simpa [World.setCell] using hbl)) ?_
                       first | rfl | (congr 3 <;> omega))))
          · obtain ⟨aa, haa⟩ : ∃ aa, aa = acc + x.toNat % 128 * 128 := ⟨_, rfl⟩
            have hat3 : Hid (numOf l = numGo (6 - 2) 2 (128 ^ 2) aa (l.drop 2)) := hid (by rw [hat2.out, numGo_hi hx, haa])
            clear hat2
            go_wp2_with (go_at_call 66; refine (HF.out 2).mono ?_; rintro e w' ⟨rfl, hR, hg⟩)
            go_step3
            refine ⟨rfl, ⟨2, aa, by omega, by omega, by omega, rfl, by rw [haa]; omega, hat3, ?_⟩, by simp [slotI]⟩
            (repeat apply Exists.intro)
            exact ⟨rfl, by congr 1; omega, by congr 1⟩
        · have hlK : (l.length : Int) = 1 := by omega
          have hlN : l.length = 1 := by omega
          have HE := hid (numS_cut (s := (l, 0)) rfl (by rw [hat.out, List.drop_eq_nil_of_le (by omega)]; rfl))
          clear hat
          go_wp2_with (go_at_call 66; refine (HF.out 3).mono ?_; rintro e w' ⟨rfl, hR, hg⟩)
          simp only [Exit.jump]
          go_ret
          rw [HE.out]
          exact ⟨rfl, hR, hg⟩
      · have hacc : acc < 16384 := by simpa using hacc
        have hat : Hid (numOf l = numGo 4 2 16384 acc (l.drop 2)) := hat
        clear hk1 hk6
        by_cases hkn : 2 < l.length
        · obtain ⟨x, hx⟩ : ∃ x, l[2]? = some x := ⟨l[2], List.getElem?_eq_getElem hkn⟩
          obtain rfl := ha (by omega)
          have d0 := hcl 2 x hx
          have hat2 := hid (by have := hat.out; rw [drop_at hx] at this; exact this)
          have hbl := hb (by omega)
          have HL := hid hkn
          have hneq : ¬ ((2 : Int) = (l.length : Int)) := by omega
          have HC := hid hcl
          clear hx hat hcl
          have hxl := x.toNat_lt
          by_cases hx : x.toNat < 128
          · obtain ⟨aa, haa⟩ : ∃ aa, aa = acc + x.toNat * 16384 := ⟨_, rfl⟩
            by_cases hz : x.toNat = 0
            · have HE := hid (numS_form (s := (l, 0)) rfl (hat2.out.trans (numGo_form hx (.inl ⟨by omega, hz⟩))))
              clear haa
              go_wp2_with (go_at_call 66; refine (HF.out 2).mono ?_; rintro e w' ⟨rfl, hR, hg⟩)
              simp only [Exit.jump]
              go_ret
              rw [HE.out]
              exact ⟨rfl, hR, hg⟩
            · have hz' : ¬ ((x.toNat : Int) = 0) := by omega
              have HE := hid (numS_got (s := (l, 0)) rfl (hat2.out.trans (numGo_lo hx (by omega))))
              have hbq : Hid (b ≠ p) := hid (by intro hh; subst hh; exact hnF (hvF _ rfl))
              have HV := hid (And.intro hvF hnF)
              have HD := hid (fun (w0 : World) => SlB.drop (w := w0) (b := b) (o := o) (cap := cap) (l := l) 3 (by omega) (by omega))
              clear hat2 hvF hnF
              skip
              all_goals (
                go_wp2_with (go_at_call 66; refine (HF.out 2).mono ?_; rintro e w' ⟨rfl, hR, hg⟩)
                all_goals (
                  simp only [Exit.jump]
                  go_ret
                  rw [HE.out]
                  refine ⟨retI (by (try dsimp only); omega), ⟨_, set0 HP.out, ?_, fun k hk => HV.out.1 k hk, HV.out.2⟩, grownSet _ _ _⟩
                  first
                    | exact SlB.nothing (by rw [List.length_drop]; omega) (by omega) (by omega)
                    | (refine SlB.of (HD.out _ (fun j y hj => (cellSet hbl hbq.out).trans (HC.out j y hj)) hc (by simpa [World.setCell] using hbl)) ?_
                       first | rfl | (congr 3 <;> omega))))
          · obtain ⟨aa, haa⟩ : ∃ aa, aa = acc + x.toNat % 128 * 16384 := ⟨_, rfl⟩
            have hat3 : Hid (numOf l = numGo (6 - 3) 3 (128 ^ 3) aa (l.drop 3)) := hid (by rw [hat2.out, numGo_hi hx, haa])
            clear hat2
            go_wp2_with (go_at_call 66; refine (HF.out 2).mono ?_; rintro e w' ⟨rfl, hR, hg⟩)
            go_step3
            refine ⟨rfl, ⟨3, aa, by omega, by omega, by omega, rfl, by rw [haa]; omega, hat3, ?_⟩, by simp [slotI]⟩
            (repeat apply Exists.intro)
            exact ⟨rfl, by congr 1; omega, by congr 1⟩
        · have hlK : (l.length : Int) = 2 := by omega
          have hlN : l.length = 2 := by omega
          have HE := hid (numS_cut (s := (l, 0)) rfl (by rw [hat.out, List.drop_eq_nil_of_le (by omega)]; rfl))
          clear hat
          go_wp2_with (go_at_call 66; refine (HF.out 3).mono ?_; rintro e w' ⟨rfl, hR, hg⟩)
          simp only [Exit.jump]
          go_ret
          rw [HE.out]
          exact ⟨rfl, hR, hg⟩
      · have hacc : acc < 2097152 := by simpa using hacc
        have hat : Hid (numOf l = numGo 3 3 2097152 acc (l.drop 3)) := hat
        clear hk1 hk6
        by_cases hkn : 3 < l.length
        · obtain ⟨x, hx⟩ : ∃ x, l[3]? = some x := ⟨l[3], List.getElem?_eq_getElem hkn⟩
          obtain rfl := ha (by omega)
          have d0 := hcl 3 x hx
          have hat2 := hid (by have := hat.out; rw [drop_at hx] at this; exact this)
          have hbl := hb (by omega)
          have HL := hid hkn
          have hneq : ¬ ((3 : Int) = (l.length : Int)) := by omega
          have HC := hid hcl
          clear hx hat hcl
          have hxl := x.toNat_lt
          by_cases hx : x.toNat < 128
          · obtain ⟨aa, haa⟩ : ∃ aa, aa = acc + x.toNat * 2097152 := ⟨_, rfl⟩
            by_cases hz : x.toNat = 0
            · have HE := hid (numS_form (s := (l, 0)) rfl (hat2.out.trans (numGo_form hx (.inl ⟨by omega, hz⟩))))
              clear haa
              go_wp2_with (go_at_call 66; refine (HF.out 2).mono ?_; rintro e w' ⟨rfl, hR, hg⟩)
              simp only [Exit.jump]
              go_ret
              rw [HE.out]
              exact ⟨rfl, hR, hg⟩
            · have hz' : ¬ ((x.toNat : Int) = 0) := by omega
              have HE := hid (numS_got (s := (l, 0)) rfl (hat2.out.trans (numGo_lo hx (by omega))))
              have hbq : Hid (b ≠ p) := hid (by intro hh; subst hh; exact hnF (hvF _ rfl))
              have HV := hid (And.intro hvF hnF)
              have HD := hid (fun (w0 : World) => SlB.drop (w := w0) (b := b) (o := o) (cap := cap) (l := l) 4 (by omega) (by omega))
              clear hat2 hvF hnF
              skip
              all_goals (
                go_wp2_with (go_at_call 66; refine (HF.out 2).mono ?_; rintro e w' ⟨rfl, hR, hg⟩)
                all_goals (
                  simp only [Exit.jump]
                  go_ret
                  rw [HE.out]
                  refine ⟨retI (by (try dsimp only); omega), ⟨_, set0 HP.out, ?_, fun k hk => HV.out.1 k hk, HV.out.2⟩, grownSet _ _ _⟩
                  first
                    | exact SlB.nothing (by rw [List.length_drop]; omega) (by omega) (by omega)
                    | (refine SlB.of (HD.out _ (fun j y hj => (cellSet hbl hbq.out).trans (HC.out j y hj)) hc (by simpa [World.setCell] using hbl)) ?_
                       first | rfl | (congr 3 <;> omega))))
          · obtain ⟨aa, haa⟩ : ∃ aa, aa = acc + x.toNat % 128 * 2097152 := ⟨_, rfl⟩
            have hat3 : Hid (numOf l = numGo (6 - 4) 4 (128 ^ 4) aa (l.drop 4)) := hid (by rw [hat2.out, numGo_hi hx, haa])
            clear hat2
            go_wp2_with (go_at_call 66; refine (HF.out 2).mono ?_; rintro e w' ⟨rfl, hR, hg⟩)
            go_step3
            refine ⟨rfl, ⟨4, aa, by omega, by omega, by omega, rfl, by rw [haa]; omega, hat3, ?_⟩, by simp [slotI]⟩
            (repeat apply Exists.intro)
            exact ⟨rfl, by congr 1; omega, by congr 1⟩
        · have hlK : (l.length : Int) = 3 := by omega
          have hlN : l.length = 3 := by omega
          have HE := hid (numS_cut (s := (l, 0)) rfl (by rw [hat.out, List.drop_eq_nil_of_le (by omega)]; rfl))
          clear hat
          go_wp2_with (go_at_call 66; refine (HF.out 3).mono ?_; rintro e w' ⟨rfl, hR, hg⟩)
          simp only [Exit.jump]
          go_ret
          rw [HE.out]
          exact ⟨rfl, hR, hg⟩
      · have hacc : acc < 268435456 := by simpa using hacc
        have hat : Hid (numOf l = numGo 2 4 268435456 acc (l.drop 4)) := hat
        clear hk1 hk6
        by_cases hkn : 4 < l.length
        · obtain ⟨x, hx⟩ : ∃ x, l[4]? = some x := ⟨l[4], List.getElem?_eq_getElem hkn⟩
          obtain rfl := ha (by omega)
          have d0 := hcl 4 x hx
          have hat2 := hid (by have := hat.out; rw [drop_at hx] at this; exact this)
          have hbl := hb (by omega)
          have HL := hid hkn
          have hneq : ¬ ((4 : Int) = (l.length : Int)) := by omega
          have HC := hid hcl
          clear hx hat hcl
          have hxl := x.toNat_lt
          by_cases hx : x.toNat < 128
          · obtain ⟨aa, haa⟩ : ∃ aa, aa = acc + x.toNat * 268435456 := ⟨_, rfl⟩
            by_cases hz : x.toNat = 0
            · have HE := hid (numS_form (s := (l, 0)) rfl (hat2.out.trans (numGo_form hx (.inl ⟨by omega, hz⟩))))
              clear haa
              go_wp2_with (go_at_call 66; refine (HF.out 2).mono ?_; rintro e w' ⟨rfl, hR, hg⟩)
              simp only [Exit.jump]
              go_ret
              rw [HE.out]
              exact ⟨rfl, hR, hg⟩
            · have hz' : ¬ ((x.toNat : Int) = 0) := by omega
              have HE := hid (numS_got (s := (l, 0)) rfl (hat2.out.trans (numGo_lo hx (by omega))))
              have hbq : Hid (b ≠ p) := hid (by intro hh; subst hh; exact hnF (hvF _ rfl))
              have HV := hid (And.intro hvF hnF)
              have HD := hid (fun (w0 : World) => SlB.drop (w := w0) (b := b) (o := o) (cap := cap) (l := l) 5 (by omega) (by omega))
              clear hat2 hvF hnF
              skip
              all_goals (
                go_wp2_with (go_at_call 66; refine (HF.out 2).mono ?_; rintro e w' ⟨rfl, hR, hg⟩)
                all_goals (
                  simp only [Exit.jump]
                  go_ret
                  rw [HE.out]
                  refine ⟨retI (by (try dsimp only); omega), ⟨_, set0 HP.out, ?_, fun k hk => HV.out.1 k hk, HV.out.2⟩, grownSet _ _ _⟩
                  first
                    | exact SlB.nothing (by rw [List.length_drop]; omega) (by omega) (by omega)
                    | (refine SlB.of (HD.out _ (fun j y hj => (cellSet hbl hbq.out).trans (HC.out j y hj)) hc (by simpa [World.setCell] using hbl)) ?_
                       first | rfl | (congr 3 <;> omega))))
          · obtain ⟨aa, haa⟩ : ∃ aa, aa = acc + x.toNat % 128 * 268435456 := ⟨_, rfl⟩
            have hat3 : Hid (numOf l = numGo (6 - 5) 5 (128 ^ 5) aa (l.drop 5)) := hid (by rw [hat2.out, numGo_hi hx, haa])
            clear hat2
            go_wp2_with (go_at_call 66; refine (HF.out 2).mono ?_; rintro e w' ⟨rfl, hR, hg⟩)
            go_step3
            refine ⟨rfl, ⟨5, aa, by omega, by omega, by omega, rfl, by rw [haa]; omega, hat3, ?_⟩, by simp [slotI]⟩
            (repeat apply Exists.intro)
            exact ⟨rfl, by congr 1; omega, by congr 1⟩
        · have hlK : (l.length : Int) = 4 := by omega
          have hlN : l.length = 4 := by omega
          have HE := hid (numS_cut (s := (l, 0)) rfl (by rw [hat.out, List.drop_eq_nil_of_le (by omega)]; rfl))
          clear hat
          go_wp2_with (go_at_call 66; refine (HF.out 3).mono ?_; rintro e w' ⟨rfl, hR, hg⟩)
          simp only [Exit.jump]
          go_ret
          rw [HE.out]
          exact ⟨rfl, hR, hg⟩
      · have hacc : acc < 34359738368 := by simpa using hacc
        have hat : Hid (numOf l = numGo 1 5 34359738368 acc (l.drop 5)) := hat
        clear hk1 hk6
        by_cases hkn : 5 < l.length
        · obtain ⟨x, hx⟩ : ∃ x, l[5]? = some x := ⟨l[5], List.getElem?_eq_getElem hkn⟩
          obtain rfl := ha (by omega)
          have d0 := hcl 5 x hx
          have hat2 := hid (by have := hat.out; rw [drop_at hx] at this; exact this)
          have hbl := hb (by omega)
          have HL := hid hkn
          have hneq : ¬ ((5 : Int) = (l.length : Int)) := by omega
          have HC := hid hcl
          clear hx hat hcl
          have hxl := x.toNat_lt
          by_cases hx : x.toNat < 128
          · obtain ⟨aa, haa⟩ : ∃ aa, aa = acc + x.toNat * 34359738368 := ⟨_, rfl⟩
            by_cases hz : x.toNat = 0
            · have HE := hid (numS_form (s := (l, 0)) rfl (hat2.out.trans (numGo_form hx (.inl ⟨by omega, hz⟩))))
              clear haa
              go_wp2_with (go_at_call 66; refine (HF.out 2).mono ?_; rintro e w' ⟨rfl, hR, hg⟩)
              simp only [Exit.jump]
              go_ret
              rw [HE.out]
              exact ⟨rfl, hR, hg⟩
            · have hz' : ¬ ((x.toNat : Int) = 0) := by omega
              by_cases hq : 1099511627776 < aa
              · have HE := hid (numS_form (s := (l, 0)) rfl (hat2.out.trans (numGo_form hx (.inr (by omega)))))
                go_wp2_with (go_at_call 66; refine (HF.out 2).mono ?_; rintro e w' ⟨rfl, hR, hg⟩)
                simp only [Exit.jump]
                go_ret
                rw [HE.out]
                exact ⟨rfl, hR, hg⟩
              · skip
                have HE := hid (numS_got (s := (l, 0)) rfl (hat2.out.trans (numGo_lo hx (by omega))))
                have hbq : Hid (b ≠ p) := hid (by intro hh; subst hh; exact hnF (hvF _ rfl))
                have HV := hid (And.intro hvF hnF)
                have HD := hid (fun (w0 : World) => SlB.drop (w := w0) (b := b) (o := o) (cap := cap) (l := l) 6 (by omega) (by omega))
                clear hat2 hvF hnF
                skip
                all_goals (
                  go_wp2_with (go_at_call 66; refine (HF.out 2).mono ?_; rintro e w' ⟨rfl, hR, hg⟩)
                  all_goals (
                    simp only [Exit.jump]
                    go_ret
                    rw [HE.out]
                    refine ⟨retI (by (try dsimp only); omega), ⟨_, set0 HP.out, ?_, fun k hk => HV.out.1 k hk, HV.out.2⟩, grownSet _ _ _⟩
                    first
                      | exact SlB.nothing (by rw [List.length_drop]; omega) (by omega) (by omega)
                      | (refine SlB.of (HD.out _ (fun j y hj => (cellSet hbl hbq.out).trans (HC.out j y hj)) hc (by simpa [World.setCell] using hbl)) ?_
                         first | rfl | (congr 3 <;> omega))))
          · obtain ⟨aa, haa⟩ : ∃ aa, aa = acc + x.toNat % 128 * 34359738368 := ⟨_, rfl⟩
            have hat3 : Hid (numOf l = numGo (6 - 6) 6 (128 ^ 6) aa (l.drop 6)) := hid (by rw [hat2.out, numGo_hi hx, haa])
            clear hat2
            go_wp2_with (go_at_call 66; refine (HF.out 2).mono ?_; rintro e w' ⟨rfl, hR, hg⟩)
            go_step3
            refine ⟨rfl, ⟨6, aa, by omega, by omega, by omega, rfl, by rw [haa]; omega, hat3, ?_⟩, by simp [slotI]⟩
            (repeat apply Exists.intro)
            exact ⟨rfl, by congr 1; omega, by congr 1⟩
        · have hlK : (l.length : Int) = 5 := by omega
          have hlN : l.length = 5 := by omega
          have HE := hid (numS_cut (s := (l, 0)) rfl (by rw [hat.out, List.drop_eq_nil_of_le (by omega)]; rfl))
          clear hat
          go_wp2_with (go_at_call 66; refine (HF.out 3).mono ?_; rintro e w' ⟨rfl, hR, hg⟩)
          simp only [Exit.jump]
          go_ret
          rw [HE.out]
          exact ⟨rfl, hR, hg⟩
      · have HE := hid (numS_form (s := (l, 0)) rfl (by rw [hat.out]; rfl))
        clear hat
        go_wp2_with (go_at_call 66; refine (HF.out 2).mono ?_; rintro e w' ⟨rfl, hR, hg⟩)
        simp only [Exit.jump]
        go_ret
        rw [HE.out]
        exact ⟨rfl, hR, hg⟩
  · have HE := hid (numS_wrong (s := (l, e)) he)
    go_enter Tryz.func45, Tryz.ntmps45
    go_wp2
    go_step3
    go_wp2_with (go_at_call 46; refine hE.mono ?_; rintro e w' ⟨rfl, rfl⟩)
    rw [Exit.noGoto_ret]
    go_ret
    rw [HE.out]
    exact ⟨rfl, HR.out, grownRefl _ _⟩
end Go.Proofs.YtpkkmfppdhjpkaaGreat
