/- The walk of the law DiskPlays, where there is a disk. -/
import Derived.Test.YtiloeejpjjdaeaaDPlays
namespace Go.Proofs.Ytiloeejpjjdaeaa
set_option linter.unusedVariables false
open Go.RowKit
open Go.Lib (hid)

theorem Two.wide {w : World} {B N p q s : Nat} {room : Int} {l : List UInt8} (h : Two w B N p q room l s) : Two w B w.heap.size p q room l s := by
  obtain ⟨v, u, hD, hR, hO, hS, hu, hv, a1, a2, a3, a4, a5, a6⟩ := h
  exact ⟨v, u, hD, hR, hO, hS, hu, fun k hk => (hO.lt k hk).2, a1, by omega, a3, by omega, Nat.le_refl _, a6⟩
set_option maxHeartbeats 6400000 in
set_option maxRecDepth 100000 in
theorem wPlays {w : World} {v : Value} {xs : List Av} (h : SlA w v xs) (hl : xs.length ≤ 9223372036854775807) (hbig : ∀ x ∈ xs, x.b.length ≤ 9223372036854775807) (room : Int) (hf : fitsA xs = true) (hroom : roomB room = true) : Calls Try.prog 3 #[.int .i64 room, v] w fun e w' => e = .returned (.bool true) ∧ Below w.heap.size w w' := by
  have HC := hid (cFits h hl hbig)
  rw [hf] at HC
  have hff : lenA xs ≤ 3000 ∧ xs.length ≤ 60 := by unfold fitsA at hf; simp at hf; exact hf
  have HF := hid hff
  have HRM := hid hroom
  obtain ⟨b, o, cap, a, rfl, hcap, ha, hr, hlt⟩ := h
  obtain ⟨n, hn⟩ : ∃ n, n = xs.length := ⟨_, rfl⟩
  rw [← hn] at hl hcap ha hlt hff HC ⊢
  have hn60 : n ≤ 60 := hff.2
  have hncap : (n : Int) ≤ (cap : Int) := by omega
  have HN := hid hn
  have HR := hid hr
  have HA := hid (And.intro ha hlt)
  clear hr hn ha hlt hbig hcap hf hff hl hroom
  go_enter Try.func3, Try.ntmps3
  go_wp2_with fail
  go_at_call 5
  refine HC.out.mono ?_
  rintro e w1 ⟨rfl, rfl⟩
  clear HC
  go_wp2_with fail
  go_at_call 7
  refine (one_new (Below.refl _ w) HRM.out).mono ?_
  rintro e w1 ⟨rfl, h1⟩
  have HT0 := two_new h1 ((Below.refl _ w1).alloc (Nat.le_refl _) (.cells #[.int .i64 room, .slice none 0 0, .int .i64 0] 39)) (heap_alloc_new w1 _)
  obtain ⟨p, HT, hp⟩ : ∃ p, Hid (Two (w1.alloc (.cells #[.int .i64 room, .slice none 0 0, .int .i64 0] 39)) w.heap.size (w1.alloc (.cells #[.int .i64 room, .slice none 0 0, .int .i64 0] 39)).heap.size p w1.heap.size room [] 0 ∧ Below w.heap.size w (w1.alloc (.cells #[.int .i64 room, .slice none 0 0, .int .i64 0] 39))) ∧ p = w.heap.size := ⟨_, hid HT0, rfl⟩
  rw [← hp]
  clear h1 hp HT0
  obtain ⟨q, hq⟩ : ∃ q, q = w1.heap.size := ⟨_, rfl⟩
  rw [← hq] at HT
  have hRt := rRight room w1
  rw [HRM.out] at hRt
  have HRt := hid hRt
  clear hRt
  go_wp2_with fail
  go_at_call 8
  refine HRt.out.mono ?_
  rintro e w2 ⟨rfl, rfl⟩
  go_wp2_with (first
    | (go_at_call 9; refine (cSync0 w1).mono ?_; rintro e w9 ⟨rfl, rfl⟩)
    | (go_at_call 10; refine (cCrash0 3 w1).mono ?_; rintro e w9 ⟨rfl, rfl⟩)
    | (go_at_call 11; refine (cAppend0 _ w1).mono ?_; rintro e w9 ⟨rfl, rfl⟩)
    | (go_at_call 12; refine (cCut0 0 w1).mono ?_; rintro e w9 ⟨rfl, rfl⟩)
    | (go_at_call 13; refine (cBytes0 w1).mono ?_; rintro e w9 ⟨rfl, rfl⟩)
    | (go_at_call 14; refine (cSynced0 w1).mono ?_; rintro e w9 ⟨rfl, rfl⟩)
    | (go_at_call 15; refine (cLeft0 w1).mono ?_; rintro e w9 ⟨rfl, rfl⟩)
    | (go_at_call 16; refine (cClone0 w1).mono ?_; rintro e w9 ⟨rfl, rfl⟩))
  rw [← hq]
  clear hq
  go_loopw [11] (fun i wr => ∃ (j s : Nat) (l : List UInt8), j ≤ n ∧ i = .int .i64 j ∧ Hid (Two wr w.heap.size wr.heap.size p q room l s ∧ Below w.heap.size w wr ∧ l.length ≤ lenA (xs.take j))) (fun i _ => n - (intOf i).toNat)
  case atStart => exact ⟨0, 0, [], Nat.zero_le _, rfl, hid ⟨HT.out.1, HT.out.2, Nat.zero_le _⟩⟩
  case round =>
    obtain ⟨j, s, l, hj, rfl, HI⟩ := hrel
    by_cases hlt : j < n
    · obtain ⟨x, hx⟩ : ∃ x, xs[j]? = some x := ⟨xs[j]'(by rw [← HN.out]; exact hlt), List.getElem?_eq_getElem (by rw [← HN.out]; exact hlt)⟩
      obtain ⟨k0, k1, k2, hs, hk8, _⟩ := HR.out j x hx
      obtain ⟨rfl, hbl⟩ : a = some ⟨b, o, none⟩ ∧ b < w.heap.size := ⟨HA.out.1 (by omega), HA.out.2 (by omega)⟩
      have hnx := lenA_next hx
      have hall := lenA_le xs (j + 1)
      have hlt2 : (j : Int) < (n : Int) := by omega
      have HX := hid (And.intro hs (And.intro hk8 (And.intro hnx hall)))
      have HKK := hid (And.intro k0 (And.intro k1 (And.intro k2 hbl)))
      have HLL : Hid (l.length ≤ 3000) := hid (by have h1 := HI.out.2.2; have h2 := HF.out.1; omega)
      clear hs hk8 hnx hall hx k0 k1 k2 HT
      go_wp2_with fail
      go_at_call 16
      obtain ⟨vd, ud, hD, hRk, hO, hS, hu, hv, e1, e2, e3, e4, e5, e6⟩ := HI.out.1
      refine (cClone hD hO.slb (by have := HLL.out; omega)).mono ?_
      rintro e w2 ⟨cq, r, rfl, hDc, hOc, hcq, hB2⟩
      have HDC := hid (And.intro hDc (And.intro hOc hcq))
      have HB2 := hid hB2
      have hR2 := obOn hRk hB2 (Array.getElem?_eq_some_iff.1 hRk).1
      have hS2 := hS.on hB2
      obtain ⟨ua, ucap, rfl, _, _⟩ := hS2.any
      obtain ⟨hq2, m0, m1, m2, _, _, _⟩ := Tri.cells hR2
      have HS2 := hid hS2
      have HR2 := hid hR2
      have HE6 := hid e6
      clear hD hRk hO hS hu hv e1 e2 e3 e4 e5 e6 hDc hOc hcq hB2 hR2 hS2
      go_wp2_with (at_builtin; refine wpList_append_slb rfl _ _ rfl w2.heap.size _ [] rfl (OwnB.made w2) _ l rfl (HS2.out.on ((Below.refl _ w2).alloc (Nat.le_refl _) _)) (by have := HLL.out; simp; omega) (by simp) ?_; intro v3 w3 ho hg; have hb3 : Below w2.heap.size w2 w3 := ((Below.refl _ w2).alloc (Nat.le_refl _) (.cells #[] 5)).grown hg (by simp) (fun k hk => by cases hk; exact Nat.le_refl _); have HB3 := hid hb3; have HO3 : Hid (OwnB w3 w2.heap.size v3 l) := hid ho; have n0 := (hb3.cell (p := ⟨q, 0, none⟩) hq2).trans m0; have n1 := (hb3.cell (p := ⟨q, 1, none⟩) hq2).trans m1; have n2 := (hb3.cell (p := ⟨q, 2, none⟩) hq2).trans m2; have hB03 := HI.out.2.1.trans ((HB2.out.trans (hb3.mono HB2.out.size)).mono HI.out.2.1.size); have d0 := (hB03.cell (p := ⟨b, o + j * 3, none⟩) HKK.out.2.2.2).trans HKK.out.1; have d1 := (hB03.cell (p := ⟨b, o + j * 3 + 1, none⟩) HKK.out.2.2.2).trans HKK.out.2.1; have d2 := (hB03.cell (p := ⟨b, o + j * 3 + 2, none⟩) HKK.out.2.2.2).trans HKK.out.2.2.1; have HB03 := hid hB03; obtain ⟨ga, ca, na, rfl, hna⟩ := ho.asSlice; clear ho hg hb3 hna m0 m1 m2 hB03)
      have HT3 := hid ((HI.out.1.on HB2.out).on HB3.out)
      clear n0 n1 n2 hq2
      go_wp2_with fail
      go_at_call 17
      refine (cStep (x := x) HT3.out HB03.out HX.out.1 HRM.out (by have h1 := HX.out.2.2.1; have h2 := HX.out.2.2.2; have h3 := HF.out.1; have h4 := HI.out.2.2; omega) HX.out.2.1).mono ?_
      rintro e w4 ⟨rfl, ⟨l', s', hT', hl'⟩, hC⟩
      have HI4 := hid (And.intro hT' (And.intro (hC.below HB03.out HB03.out.size) (show l'.length ≤ lenA (xs.take (j + 1)) by have h1 := HX.out.2.2.1; have h4 := HI.out.2.2; omega)))
      have hD3 := obOn HDC.out.1 HB3.out (Array.getElem?_eq_some_iff.1 HDC.out.1).1
      have hD4 : Dk w4 cq room r s := hC.ob hD3 HDC.out.2.2
      have hO3 := own_below HDC.out.2.1 HB3.out (fun k hk => (HDC.out.2.1.lt k hk).2)
      have hO4 := own_chg hO3 hC (Nat.le_refl _)
      have hW4 := own_chg HO3.out hC HB2.out.size
      have hltc := (Array.getElem?_eq_some_iff.1 hD4).1
      have HCB := hid (fun (W : World) (hb : Below w4.heap.size w4 W) => cBytes (obOn hD4 hb hltc) (hO4.slb.on hb) (by have := HLL.out; omega))
      have HCS := hid (fun (W : World) (hb : Below w4.heap.size w4 W) => cSynced (obOn hD4 hb hltc))
      have HK := hid (fun (W' : World) (hb : Below w4.heap.size w4 W') => (show (convert 33 9 (.slice ga na ca)).run Try.prog W' = .ok (strB l) W' from convB (hW4.slb.on hb)))
      have hS0 := HK.out w4.drew (belowDrew (Below.refl _ w4))
      clear hT' hl' hC d0 d1 d2 hD3 hD4 hO3 hO4 hW4 hltc HT3 HI HDC HO3 HKK HB2 HB3 HB03 HS2 HR2 HE6
      go_wp2_with fail
      go_region_held (fun W' => (convert 33 9 (.slice ga na ca)).run Try.prog W' = .ok (strB l) W') (first | exact hS0 | assumption) (first
        | (go_at_call 13; (
            refine (HCB.out _ (belowDrew (Below.refl _ w4))).mono ?_
            rintro e w9 ⟨r9, rfl, ho, hB9⟩
            obtain ⟨g9, c9, n9, rfl, hn9⟩ := ho.asSlice
            clear hn9
            have hcr := convB ho.slb
            have hb9 : Below w4.heap.size w4 w9 := (belowDrew (Below.refl _ w4)).trans hB9
            have hS9 := HK.out w9 hb9
            have HB9 := hid hb9
            clear ho hB9 hb9))
        | (go_at_call 14; refine (HCS.out _ HB9.out).mono ?_; rintro e w8 ⟨rfl, rfl⟩))
      all_goals (
        go_wp2
        go_roundw
        case rel => exact ⟨j + 1, s', l', by omega, by go_num, hid ⟨(HI4.out.1.on HB9.out).wide, HI4.out.2.1.trans (HB9.out.mono HI4.out.2.1.size), HI4.out.2.2⟩⟩
        case measure => simp [RowKit.intOf]; omega)
    · have hlt2 : ¬ (j : Int) < (n : Int) := by omega
      have HB := hid HI.out.2.1
      clear HI HT HA HR HN HF hncap hn60
      go_wp2_with fail
      go_at_call 6
      refine (cAlive _).mono ?_
      rintro e w6 ⟨rfl, hB6⟩
      have HB6 := hid (HB.out.trans (hB6.mono HB.out.size))
      clear hB6
      go_wp2_with fail
      go_ret
      exact ⟨rfl, HB6.out⟩
end Go.Proofs.Ytiloeejpjjdaeaa
