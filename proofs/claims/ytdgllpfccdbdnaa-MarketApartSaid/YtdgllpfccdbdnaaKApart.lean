/- The walk of the law MarketApart. -/
import Derived.Test.YtdgllpfccdbdnaaKTwo
namespace Go.Proofs.Ytdgllpfccdbdnaa
set_option linter.unusedVariables false
set_option linter.unusedSimpArgs false
open Go.RowKit
open Go.Lib (hid)

theorem TwoM.start {w w1 w2 : World} {q1 q2 : Nat → Nat} (h1 : Mk w1 w.heap.size q1 fun _ => Pl.none) (b1 : Below w.heap.size w w1) (h2 : Mk w2 w1.heap.size q2 fun _ => Pl.none) (b2 : Below w1.heap.size w1 w2) : TwoM w w2 w.heap.size w1.heap.size (fun _ => Pl.none) (fun _ => Pl.none) :=
  ⟨⟨q1, h1.on b2⟩, ⟨q2, h2⟩, ok0, ok0, b1.trans (b2.mono b1.size), Nat.le_refl _, b1.size, by have := (MkO.cells h1.ob).1; omega⟩
theorem TwoM.lts {w wr : World} {ma mb : Nat} {PA PB : Nat → Pl} (h : TwoM w wr ma mb PA PB) : ma < wr.heap.size ∧ mb < wr.heap.size := by
  obtain ⟨_, ha⟩ := h.a
  obtain ⟨_, hb⟩ := h.b
  exact ⟨(MkO.cells ha.ob).1, (MkO.cells hb.ob).1⟩
/-- The reply's box. -/
abbrev rpB (err : Int) (a : Option Addr) (n c : Nat) (left : Int) : Obj := .cells #[.int .i64 err, .slice a n c, .int .i64 left] 37 (0, 0)

set_option maxHeartbeats 6400000 in
set_option maxRecDepth 100000 in
theorem wApart {w : World} {v : Value} {cs : List C7} (h : Sl w v cs) (z : Nat) (hz : z < 256) : Calls Try.prog 4 #[v, .int .u8 z] w fun e w' => e = .returned (.bool true) ∧ Below w.heap.size w w' := by
  obtain ⟨a, n, cap, rfl, hn, hx⟩ := h.shape
  have HN := hid hn
  have HX := hid hx
  clear h hn hx
  by_cases h80 : 80 < n
  · go_enter Try.func4, Try.ntmps4
    go_wp2_with fail
    go_at_call 5
    refine (cAlive _).mono ?_
    rintro e w1 ⟨rfl, hB1⟩
    go_wp2_with fail
    go_ret
    exact ⟨rfl, hB1⟩
  · obtain ⟨s, hs⟩ : ∃ s : Nat, s = z % 4 := ⟨_, rfl⟩
    have hm1 : (z : Int).tmod 4 = (s : Int) := by rw [Int.tmod_eq_emod_of_nonneg (by omega)]; omega
    have hs4 : s < 4 := by omega
    have HS4 := hid hs4
    clear hs
    go_enter Try.func4, Try.ntmps4
    go_wp2_with fail
    go_at_call 6
    refine (cMNew w).mono ?_
    rintro e w1 ⟨rfl, ⟨q1, hK1⟩, hB1⟩
    have HK1 := hid hK1
    have HB1 := hid hB1
    clear hK1 hB1
    go_wp2_with fail
    go_at_call 6
    refine (cMNew w1).mono ?_
    rintro e w2 ⟨rfl, ⟨q2, hK2⟩, hB2⟩
    have HI1 := hid (And.intro (TwoM.start HK1.out HB1.out hK2 hB2) (rfl : (fun _ => Pl.none : Nat → Pl) s = (fun _ => Pl.none) s))
    clear hK2 hB2
    obtain ⟨ma, hma⟩ : ∃ ma, ma = w.heap.size := ⟨_, rfl⟩
    obtain ⟨mb, hmb⟩ : ∃ mb, mb = w1.heap.size := ⟨_, rfl⟩
    rw [← hma, ← hmb] at HI1
    rw [← hma, ← hmb]
    have HMA := hid hma
    clear hma hmb HK1 HB1
    go_wp2_with fail
    go_loopg [8, 9, 10] n (fun gg s8 s9 s10 wr => ∃ (j : Nat) (PA PB : Nat → Pl), j ≤ n ∧ n - j ≤ gg ∧ s8 = .int .i64 j ∧ Hid (TwoM w wr ma mb PA PB ∧ PA s = PB s))
    case atStart => exact ⟨0, fun _ => Pl.none, fun _ => Pl.none, Nat.zero_le _, by omega, rfl, hid ⟨HI1.out.1, rfl⟩⟩
    case round =>
      obtain ⟨j, PA, PB, hj, hgg, rfl, HI⟩ := hrel
      clear HI1
      by_cases hlt : j < n
      · have hltz : (j : Int) < (n : Int) := by omega
        obtain ⟨x, hx⟩ : ∃ x, cs[j]? = some x := ⟨cs[j]'(by rw [← HN.out]; exact hlt), List.getElem?_eq_getElem (by rw [← HN.out]; exact hlt)⟩
        obtain ⟨b, o, rfl, hb, k0, k1, k2, k3, k4, k5, k6⟩ := HX.out j x hx
        have HBB := hid hb
        have HC := hid (fun (W : World) (hW : Below w.heap.size w W) => And.intro ((hW.cell (p := ⟨b, o + j * 7, none⟩) hb).trans k0) (And.intro ((hW.cell (p := ⟨b, o + j * 7 + 1, none⟩) hb).trans k1) (And.intro ((hW.cell (p := ⟨b, o + j * 7 + 2, none⟩) hb).trans k2) (And.intro ((hW.cell (p := ⟨b, o + j * 7 + 3, none⟩) hb).trans k3) (And.intro ((hW.cell (p := ⟨b, o + j * 7 + 4, none⟩) hb).trans k4) (And.intro ((hW.cell (p := ⟨b, o + j * 7 + 5, none⟩) hb).trans k5) ((hW.cell (p := ⟨b, o + j * 7 + 6, none⟩) hb).trans k6)))))))
        clear hx k0 k1 k2 k3 k4 k5 k6 hb
        obtain ⟨d0, d1, d2, d3, d4, d5, d6⟩ := HC.out wr HI.out.1.be
        obtain ⟨qa, hKa⟩ := HI.out.1.a
        have HA := hid (cApply hKa HI.out.1.oa x)
        have h8 := apply_len x HI.out.1.oa
        have hat := fun hxs => apply_at (c := x) (P := PA) (Q := PB) (s := s) HI.out.2 hxs
        have hoff := fun hxs => (apply_off (c := x) (P := PA) (s := s) hxs).trans HI.out.2
        obtain ⟨r, hr⟩ : ∃ r, r = applyF x PA := ⟨_, rfl⟩
        obtain ⟨r2, hr2⟩ : ∃ r, r = applyF x PB := ⟨_, rfl⟩
        have HR2 := hid hr2
        rw [← hr] at HA h8 hat hoff
        rw [← hr2] at hat
        obtain ⟨err, fs, left, PA'⟩ := r
        obtain ⟨err2, fs2, left2, PB'⟩ := r2
        clear hr2
        have HAT := hid hat
        have HOFF := hid hoff
        have H8 := hid h8
        clear hKa hr hat hoff h8
        go_wp2_with fail
        go_at_call 8
        refine HA.out.mono ?_
        intro e w3 hA
        have HT3 := hid (HI.out.1.left hA)
        obtain ⟨hok, f, q', rfl, hf, hK, hTc⟩ := hA
        obtain ⟨fa, fc, fn, rfl, hfn⟩ := hf.asSlice
        have HF := hid hf
        have HWS := hid hTc.size
        clear hok hK hTc hfn hf d0 d1 d2 d3 d4 d5 d6
        obtain ⟨d0, d1, d2, d3, d4, d5, d6⟩ := HC.out w3 HT3.out.be
        have hb3 : b < w3.heap.size := by have := HT3.out.be.size; have := HBB.out; omega
        by_cases hxs : x.s = (s : Int)
        · obtain ⟨e1, e2, e3, e4⟩ := HAT.out hxs
          subst e1 e2 e3
          have HE4 := hid e4
          clear e4
          obtain ⟨W, hW⟩ : ∃ W, W = w3.alloc (rpB err fa fn fc left) := ⟨_, rfl⟩
          have hB4 : Below w3.heap.size w3 W := by rw [hW]; exact (Below.refl _ w3).alloc (Nat.le_refl _) _
          have hq4 : W.heap[w3.heap.size]? = some (rpB err fa fn fc left) := by rw [hW]; exact heap_alloc_new w3 _
          have HT4 := hid ((HT3.out.on hB4).on (w' := W.drew) ((Below.refl _ W).drew))
          have HB4 := hid hB4
          have HQ4 := hid hq4
          obtain ⟨qb, hKb⟩ := HT4.out.b
          have hAb := cApply hKb HT4.out.ob x
          rw [← HR2.out] at hAb
          have HAB := hid hAb
          have HW := hid hW
          clear hAb hKb hB4 hq4 hW d0 d1 d3 d4 d5 d6
          go_wp2_with fail
          rw [← HW.out]
          clear d2 hxs
          obtain ⟨d0, d1, d2, d3, d4, d5, d6⟩ := HC.out W (HT3.out.be.trans (HB4.out.mono HT3.out.be.size))
          have y0 := cellAt' HQ4.out 0; have y1 := cellAt' HQ4.out 1; have y2 := cellAt' HQ4.out 2
          simp at y0 y1 y2
          have hbW : b < W.heap.size := by have := HB4.out.size; omega
          have hqW := (Array.getElem?_eq_some_iff.1 HQ4.out).1
          go_region_law (first
            | (go_simp; go_at_call 8; (
                refine HAB.out.mono ?_
                intro e w5 hA5
                have HT5 := hid (HT4.out.right hA5)
                obtain ⟨hok5, f5, q5, rfl, hf5, hK5, hT5⟩ := hA5
                obtain ⟨fa5, fc5, fn5, rfl, hfn5⟩ := hf5.asSlice
                have hne : w3.heap.size ≠ mb := fun e => by have := HT3.out.lts.2; omega
                have hq5 : w5.heap[w3.heap.size]? = some (rpB err fa fn fc left) := hT5.ob HQ4.out hne
                have z0 := cellAt' hq5 0; have z1 := cellAt' hq5 1; have z2 := cellAt' hq5 2
                simp at z0 z1 z2
                have HS5 := hid (rSame (OwnG.tch ((HF.out.on HB4.out).on (Below.refl _ W).drew) hT5 fun k hk e => by have := (HF.out.lt k hk).1; have := HI.out.1.lts.2; omega) hf5 H8.out err left)
                clear hok5 hf5 hK5 hT5 hfn5 hne hq5))
            | (go_simp; go_at_call 9; (
                refine HS5.out.mono ?_
                rintro e w6 ⟨rfl, hB6⟩
                have HT6 := hid (HT5.out.on hB6)
                clear hB6)))
          all_goals (
            go_wp2_with fail
            go_roundg (n - (j + 1))
            case measure => omega
            case rel => exact ⟨j + 1, _, _, by omega, by omega, by go_num, hid ⟨HT6.out, HE4.out⟩⟩)
        · go_wp2_with fail
          go_roundg (n - (j + 1))
          case measure => omega
          case rel => exact ⟨j + 1, _, PB, by omega, by omega, by go_num, hid ⟨HT3.out.on ((Below.refl _ w3).alloc (Nat.le_refl _) _), HOFF.out hxs⟩⟩
      · have hltz : ¬ (j : Int) < (n : Int) := by omega
        obtain ⟨qa, hKa⟩ := HI.out.1.a
        have hTa := cTurnover hKa s HS4.out (HI.out.1.oa s HS4.out)
        have HTA := hid hTa
        clear hTa hKa hm1
        go_wp2_with fail
        go_at_call 13
        refine HTA.out.mono ?_
        rintro e w3 ⟨rfl, hB3⟩
        have HT3 := hid (HI.out.1.on hB3)
        obtain ⟨qb, hKb⟩ := HT3.out.b
        have hTb := cTurnover hKb s HS4.out (HT3.out.ob s HS4.out)
        rw [← HI.out.2] at hTb
        have HTB := hid hTb
        have HE2 := hid HI.out.2
        clear hTb hKb hB3
        go_wp2_with fail
        go_at_call 13
        refine HTB.out.mono ?_
        rintro e w3' ⟨rfl, hB3⟩
        have HI2a := hid (And.intro (HT3.out.on hB3) HE2.out)
        clear hB3
        obtain ⟨vo, hvo⟩ : ∃ vo, vo = (PA s).vol := ⟨_, rfl⟩
        obtain ⟨va, hva⟩ : ∃ va, va = (PA s).val := ⟨_, rfl⟩
        rw [← hvo, ← hva]
        clear hvo hva
        go_wp2_with fail
        go_loopg [15, 16, 17, 18] 2 (fun gg s15 s16 s17 s18 wr => ∃ (k : Nat), k ≤ 2 ∧ 2 - k ≤ gg ∧ s15 = .int .i64 k ∧ Hid (TwoM w wr ma mb PA PB ∧ PA s = PB s))
        case atStart => exact ⟨0, by omega, by omega, rfl, HI2a⟩
        case round =>
          obtain ⟨k, hk, hgk, rfl, HI2⟩ := hrel
          clear HI2a
          obtain rfl | rfl | rfl : k = 0 ∨ k = 1 ∨ k = 2 := by omega

          · obtain ⟨qa, hKa⟩ := HI2.out.1.a
            have hO := cMOrders0 hKa s HS4.out (HI2.out.1.oa s HS4.out)
            have HO := hid hO
            clear hO hKa
            go_wp2_with fail
            go_at_call 15
            refine HO.out.mono ?_
            rintro e w4 ⟨r4, rfl, hr4, hB4⟩
            have HT4 := hid (HI2.out.1.on hB4)
            have HR4 := hid hr4
            obtain ⟨a4, n4, c4, rfl, hn4, hx4⟩ := OwnO.at hr4
            have HN4 := hid hn4
            have HX4 := hid hx4
            clear hr4 hB4 hn4 hx4
            obtain ⟨qb, hKb⟩ := HT4.out.b
            have hO5 := cMOrders0 hKb s HS4.out (HT4.out.ob s HS4.out)
            rw [← HE2.out] at hO5
            have HO5 := hid hO5
            clear hO5 hKb
            go_wp2_with fail
            go_at_call 15
            refine HO5.out.mono ?_
            rintro e w5 ⟨r5, rfl, hr5, hB5⟩
            have HT5 := hid (HT4.out.on hB5)
            obtain ⟨a5, n5, c5, rfl, hn5, hx5⟩ := OwnO.at hr5
            obtain rfl : n5 = n4 := by have := HN4.out; omega
            have hle : n5 ≤ 8 := by have := ((HI2.out.1.oa s HS4.out).1).len; omega
            have HX5 := hid hx5
            have HB5 := hid hB5
            clear hr5 hB5 hn5 hx5
            go_wp2_with fail
            go_loopg [18] n5 (fun gg s18 wr => ∃ (j q : Nat), j ≤ n5 ∧ n5 - j ≤ gg ∧ s18 = .int .i64 j ∧ wr = w5.drewN q)
            case atStart => exact ⟨0, 0, Nat.zero_le _, by omega, rfl, rfl⟩
            case round =>
              obtain ⟨j, q, hj, hgg, rfl, rfl⟩ := hrel
              by_cases hlt : j < n5
              · have hltz : (j : Int) < (n5 : Int) := by omega
                obtain ⟨x, hx⟩ : ∃ x, (PA s).bs[j]? = some x := ⟨(PA s).bs[j]'(by rw [← HN4.out]; exact hlt), List.getElem?_eq_getElem (by rw [← HN4.out]; exact hlt)⟩
                obtain ⟨g, rfl, hg, x0, x1, x2, x3⟩ := HX4.out j x hx
                obtain ⟨g', rfl, hg', y0, y1, y2, y3⟩ := HX5.out j x hx
                have d0 := (HB5.out.cell (p := ⟨g, j * 4, none⟩) hg).trans x0
                have d1 := (HB5.out.cell (p := ⟨g, j * 4 + 1, none⟩) hg).trans x1
                have d2 := (HB5.out.cell (p := ⟨g, j * 4 + 2, none⟩) hg).trans x2
                have d3 := (HB5.out.cell (p := ⟨g, j * 4 + 3, none⟩) hg).trans x3
                have hE := neqO x
                have hG := fun op p q W => guardO op p q x x W
                clear hx x0 x1 x2 x3
                go_wp2_with fail
                go_quiet (fail)
                go_wp2_with fail
                go_roundg (n5 - (j + 1))
                case measure => omega
                case rel => exact ⟨j + 1, _, by omega, by omega, by go_num, rfl⟩
              · have hltz : ¬ (j : Int) < (n5 : Int) := by omega
                go_wp2_with fail
                go_roundg 1
                case measure => omega
                case rel => exact ⟨0 + 1, by omega, by omega, by go_num, hid ⟨HT5.out.on (belowDrewN (Below.refl _ _) _), HE2.out⟩⟩

          · obtain ⟨qa, hKa⟩ := HI2.out.1.a
            have hO := cMOrders1 hKa s HS4.out (HI2.out.1.oa s HS4.out)
            have HO := hid hO
            clear hO hKa
            go_wp2_with fail
            go_at_call 15
            refine HO.out.mono ?_
            rintro e w4 ⟨r4, rfl, hr4, hB4⟩
            have HT4 := hid (HI2.out.1.on hB4)
            have HR4 := hid hr4
            obtain ⟨a4, n4, c4, rfl, hn4, hx4⟩ := OwnO.at hr4
            have HN4 := hid hn4
            have HX4 := hid hx4
            clear hr4 hB4 hn4 hx4
            obtain ⟨qb, hKb⟩ := HT4.out.b
            have hO5 := cMOrders1 hKb s HS4.out (HT4.out.ob s HS4.out)
            rw [← HE2.out] at hO5
            have HO5 := hid hO5
            clear hO5 hKb
            go_wp2_with fail
            go_at_call 15
            refine HO5.out.mono ?_
            rintro e w5 ⟨r5, rfl, hr5, hB5⟩
            have HT5 := hid (HT4.out.on hB5)
            obtain ⟨a5, n5, c5, rfl, hn5, hx5⟩ := OwnO.at hr5
            obtain rfl : n5 = n4 := by have := HN4.out; omega
            have hle : n5 ≤ 8 := by have := ((HI2.out.1.oa s HS4.out).1).len; omega
            have HX5 := hid hx5
            have HB5 := hid hB5
            clear hr5 hB5 hn5 hx5
            go_wp2_with fail
            go_loopg [18] n5 (fun gg s18 wr => ∃ (j q : Nat), j ≤ n5 ∧ n5 - j ≤ gg ∧ s18 = .int .i64 j ∧ wr = w5.drewN q)
            case atStart => exact ⟨0, 0, Nat.zero_le _, by omega, rfl, rfl⟩
            case round =>
              obtain ⟨j, q, hj, hgg, rfl, rfl⟩ := hrel
              by_cases hlt : j < n5
              · have hltz : (j : Int) < (n5 : Int) := by omega
                obtain ⟨x, hx⟩ : ∃ x, (PA s).ss[j]? = some x := ⟨(PA s).ss[j]'(by rw [← HN4.out]; exact hlt), List.getElem?_eq_getElem (by rw [← HN4.out]; exact hlt)⟩
                obtain ⟨g, rfl, hg, x0, x1, x2, x3⟩ := HX4.out j x hx
                obtain ⟨g', rfl, hg', y0, y1, y2, y3⟩ := HX5.out j x hx
                have d0 := (HB5.out.cell (p := ⟨g, j * 4, none⟩) hg).trans x0
                have d1 := (HB5.out.cell (p := ⟨g, j * 4 + 1, none⟩) hg).trans x1
                have d2 := (HB5.out.cell (p := ⟨g, j * 4 + 2, none⟩) hg).trans x2
                have d3 := (HB5.out.cell (p := ⟨g, j * 4 + 3, none⟩) hg).trans x3
                have hE := neqO x
                have hG := fun op p q W => guardO op p q x x W
                clear hx x0 x1 x2 x3
                go_wp2_with fail
                go_quiet (fail)
                go_wp2_with fail
                go_roundg (n5 - (j + 1))
                case measure => omega
                case rel => exact ⟨j + 1, _, by omega, by omega, by go_num, rfl⟩
              · have hltz : ¬ (j : Int) < (n5 : Int) := by omega
                go_wp2_with fail
                go_roundg 0
                case measure => omega
                case rel => exact ⟨1 + 1, by omega, by omega, by go_num, hid ⟨HT5.out.on (belowDrewN (Below.refl _ _) _), HE2.out⟩⟩

          · go_wp2_with fail
            go_at_call 5
            refine (cAlive _).mono ?_
            rintro e w6 ⟨rfl, hB6⟩
            have HB6 := hid (HI2.out.1.be.trans (hB6.mono HI2.out.1.be.size))
            clear hB6
            go_wp2_with fail
            go_ret
            exact ⟨rfl, HB6.out⟩
end Go.Proofs.Ytdgllpfccdbdnaa
