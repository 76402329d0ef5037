import Derived.Test.YtogoibigabpkhaaGreatQRLearnM
import Derived.Test.YtogoibigabpkhaaGreatQNewM
/- The document's New. -/
namespace Go.Proofs.YtogoibigabpkhaaGreat
set_option linter.unusedVariables false
open Go.RowKit
open Go.Lib (hid)

theorem new_bad {nd c : Int} {l : List En} (h : ¬ (inB nd 9 = true ∧ inB c 65536 = true)) : newR nd c l = 1 := by unfold newR; rw [if_neg fun h' => h ⟨h'.1, h'.2.1⟩]
set_option maxHeartbeats 16000000 in
set_option maxRecDepth 100000 in
theorem rINew {w : World} {vs : Value} {l : List En} (h : SlE w vs (evs l)) (hA : AllAt w l) (hs : ∀ y ∈ l, y.short 1024) (hl : l.length ≤ 1000) (nd c : Int) {r : Int} (hr : r = newR nd c l) :
    Calls Tryz.prog 8 #[.int .i64 nd, .int .i64 c, vs] w fun e w' => Below w.heap.size w w' ∧ (if r = 0 then ∃ p, e = .returned (.tuple #[ptr p, .int .i64 0]) ∧ (∃ v u, Rx w' p nd (seeN c l) v u (keptE l) (upI [])) ∧ w.heap.size ≤ p else e = .returned (.tuple #[.pointer none, .int .i64 r])) := by
  have HR := hid hr
  obtain ⟨b, o, cap, a, rfl, ha, hc, hb⟩ := h
  rw [List.length_map] at ha hb ⊢
  have HCC := hid hc
  have HA := hid hA
  obtain ⟨m, hm⟩ : ∃ m, m = l.length := ⟨_, rfl⟩
  rw [← hm] at ha hb hl ⊢
  have HN := hid hm
  clear hm hc hA hr
  have hcase : nd < 0 ∨ (¬ nd < 0 ∧ 8 < nd) ∨ ((¬ nd < 0 ∧ ¬ 8 < nd) ∧ c < 0) ∨ ((¬ nd < 0 ∧ ¬ 8 < nd) ∧ ¬ c < 0 ∧ 65535 < c) ∨ ((¬ nd < 0 ∧ ¬ 8 < nd) ∧ ¬ c < 0 ∧ ¬ 65535 < c) := by omega
  rcases hcase with h1 | ⟨h1, h2⟩ | ⟨⟨h1, h2⟩, h3⟩ | ⟨⟨h1, h2⟩, h3, h4⟩ | ⟨⟨h1, h2⟩, h3, h4⟩
  · obtain rfl : r = 1 := by rw [HR.out]; exact new_bad (by unfold inB; simp; omega)
    go_enter Tryz.func8, Tryz.ntmps8
    go_wp2_with fail
    go_ret2
    exact ⟨Below.refl _ _, rfl⟩
  · obtain rfl : r = 1 := by rw [HR.out]; exact new_bad (by unfold inB; simp; omega)
    go_enter Tryz.func8, Tryz.ntmps8
    go_wp2_with fail
    go_ret2
    exact ⟨Below.refl _ _, rfl⟩
  · obtain rfl : r = 1 := by rw [HR.out]; exact new_bad (by unfold inB; simp; omega)
    go_enter Tryz.func8, Tryz.ntmps8
    go_wp2_with fail
    go_ret2
    exact ⟨Below.refl _ _, rfl⟩
  · obtain rfl : r = 1 := by rw [HR.out]; exact new_bad (by unfold inB; simp; omega)
    go_enter Tryz.func8, Tryz.ntmps8
    go_wp2_with fail
    go_ret2
    exact ⟨Below.refl _ _, rfl⟩
  · have HIN : Hid (inB nd 9 = true ∧ inB c 65536 = true) := hid (by unfold inB; simp; omega)
    have HX0 : Hid (Rx (w.alloc (.cells #[.int .i64 nd, .int .i64 c, .slice none 0 0, .slice none 0 0] 52)) w.heap.size nd (seeN c (l.take 0)) (.slice none 0 0) (.slice none 0 0) (keptE (l.take 0)) (upI [])) := hid ⟨heap_alloc_new w _, OwnG.nil _ _ _ _ _, OwnI.nil _ _⟩
    have HB0 : Hid (Below w.heap.size w (w.alloc (.cells #[.int .i64 nd, .int .i64 c, .slice none 0 0, .slice none 0 0] 52))) := hid ((Below.refl _ w).alloc (Nat.le_refl _) _)
    go_enter Tryz.func8, Tryz.ntmps8
    go_wp2_with fail
    generalize w.alloc (.cells #[.int .i64 nd, .int .i64 c, .slice none 0 0, .slice none 0 0] 52) = W0 at HX0 HB0 ⊢
    generalize hp : w.heap.size = p at HX0 ⊢
    have HP := hid hp
    clear hp h1 h2 h3 h4
    go_loopw [9, 10] (fun tw i wr => ∃ (k : Nat) (t : Bool) (v u : Value), k ≤ m ∧ i = .int .i64 k ∧ tw = .bool t ∧ Hid (Rx wr p nd (seeN c (l.take k)) v u (keptE (l.take k)) (upI [])) ∧ Hid (t = false ↔ ((l.take k).map En.id).Nodup) ∧ Hid (∀ y ∈ l.take k, y.right = true) ∧ Hid (Below w.heap.size w wr)) (fun _ i _ => m - (RowKit.intOf i).toNat)
    case atStart => exact ⟨0, false, _, _, Nat.zero_le _, rfl, rfl, HX0, hid (by simp), hid (by simp), HB0⟩
    case round =>
      obtain ⟨k, t, v, u, hk, rfl, rfl, HI, HTW, HAL, HB⟩ := hrel
      clear HX0 HB0
      by_cases hlt : k < m
      · obtain rfl := ha (by omega)
        obtain ⟨y, hy⟩ : ∃ y, l[k]? = some y := ⟨l[k]'(by rw [← HN.out]; exact hlt), List.getElem?_eq_getElem (by rw [← HN.out]; exact hlt)⟩
        have hbw := hb (by omega)
        have HC : Hid (∀ W, Below w.heap.size w W → W.rangeAt b (o + k * 19) y.e.list) := hid fun W hW => (HCC.out.on hW fun _ => hbw) k y.e (at_evs hy)
        have hmem := List.mem_of_getElem? hy
        have hsy := hs y hmem
        have hyw := HA.out y hmem
        have HY : Hid (y.at wr) := hid (hyw.on HB.out)
        have hRi := rRightE HY.out.1 HY.out.2.1 HY.out.2.2 hsy.1 hsy.2.1 hsy.2.2
        obtain ⟨rt, hrt⟩ : ∃ rt, rt = y.right := ⟨_, rfl⟩
        rw [show rightE y.e y.f y.a y.v = rt from hrt.symm] at hRi
        have HRT := hid hrt
        have HE := hid hy
        have HLT := hid hlt
        clear hrt hy hmem hsy hyw
        rcases rt with _ | _
        · have hbd : r = 1 := by
            rw [HR.out]; unfold newR; rw [if_neg]
            rintro ⟨-, -, hh⟩
            have := List.all_eq_true.1 hh y (List.mem_of_getElem? HE.out)
            rw [← HRT.out] at this; cases this
          obtain rfl := hbd
          go_wp2_with (first
            | ((with_reducible refine loadEl (T := 74) (x := ?lx1) (b := ?lb1) (o := ?lo1) uR iR y.e ?lg1 ?lp1 ?lxx1 ?lc1 ?_); (case lg1 => rfl); (case lp1 => rfl); (case lxx1 => rfl); (case lc1 => exact HC.out _ HB.out))
            | (go_at_call 30; refine hRi.mono ?_; rintro q w1 ⟨rfl, hB1⟩; have HB1 := hid (HB.out.trans (hB1.mono HB.out.size)); clear hB1)
            | fail)
          go_ret2
          exact ⟨HB1.out, rfl⟩
        · rcases t with _ | _
          · obtain ⟨d1, hd1⟩ : ∃ d, d = hasE (l.take k) y.id := ⟨_, rfl⟩
            have HD := hid hd1
            clear hd1
            rcases d1 with _ | _
            · go_wp2_with (first
                | ((with_reducible refine loadEl (T := 74) (x := ?lx2) (b := ?lb2) (o := ?lo2) uR iR y.e ?lg2 ?lp2 ?lxx2 ?lc2 ?_); (case lg2 => rfl); (case lp2 => rfl); (case lxx2 => rfl); (case lc2 => exact HC.out _ HB.out))
                | (go_at_call 30; refine hRi.mono ?_; rintro q w1 ⟨rfl, hB1⟩; have HB1 := hid (HB.out.trans (hB1.mono HB.out.size)); have HI1 := hid (HI.out.on hB1)
                   have kid : w1.cell? ⟨b, o + k * 19, none⟩ = some (.int .i64 y.e.c.i) := HC.out _ HB1.out 0 _ rfl
                   have hA := rAt HI1.out (Nat.le_trans (keptE_len _) (by rw [List.length_take]; omega)) y.e.c.i
                   rw [at_kept_no HD.out.symm] at hA
                   clear hB1)
                | (go_at_call 31; refine hA.mono ?_; rintro q w' ⟨rfl, rfl⟩)
                | ((with_reducible refine loadEl (T := 74) (x := ?lx3) (b := ?lb3) (o := ?lo3) uR iR y.e ?lg3 ?lp3 ?lxx3 ?lc3 ?_); (case lg3 => rfl); (case lp3 => rfl); (case lxx3 => rfl); (case lc3 => exact HC.out _ HB1.out))
                | fail)
              go_at_call 32
              refine (rSet HI1.out (Nat.le_trans (keptE_len _) (by rw [List.length_take]; omega))).mono ?_
              rintro q W3 ⟨rfl, ⟨v3, hJ3⟩, hT3⟩
              rw [← keptE_snoc, ← take_nextE HE.out] at hJ3
              have HJ3 := hid hJ3
              have HB3 := hid (HB1.out.trans (hT3.below (fun k e => by have := HP.out; omega) HB1.out.size))
              have k9 : W3.cell? ⟨b, o + k * 19 + 9, none⟩ = some (.int .i64 y.e.hi) := HC.out _ HB3.out 9 _ rfl
              clear hJ3 hT3
              go_wp2_with fail
              go_at_call 33
              refine (rSee HJ3.out y.e.hi).mono ?_
              rintro q W4 ⟨rfl, hJ4, hT4⟩
              have HJ4 := hid hJ4
              have HB4 := hid (HB3.out.trans (hT4.below (fun k e => by have := HP.out; omega) HB3.out.size))
              have k17 : W4.cell? ⟨b, o + k * 19 + 17, none⟩ = some (.int .i64 y.e.vt) := HC.out _ HB4.out 17 _ rfl
              clear hJ4 hT4 k9
              go_wp2_with fail
              go_at_call 33
              refine (rSee HJ4.out y.e.vt).mono ?_
              rintro q W5 ⟨rfl, hJ5, hT5⟩
              have HJ5 := hid hJ5
              have HB5 := hid (HB4.out.trans (hT5.below (fun k e => by have := HP.out; omega) HB4.out.size))
              clear hJ5 hT5 k17
              go_wp2_with fail
              go_roundw
              case rel => exact ⟨k + 1, false, v3, u, by have := HLT.out; omega, by go_num, rfl, hid (by rw [take_nextE HE.out, seeN_snoc, ← take_nextE HE.out]; exact HJ5.out), hid ⟨fun _ => by rw [take_nextE HE.out, List.map_append]; exact nodup_next (HTW.out.1 (by first | trivial | rfl)) (fun h => by have := hasE_iff.2 h; rw [← HD.out] at this; cases this), fun _ => rfl⟩, hid (fun z hz => by rw [take_nextE HE.out] at hz; rcases List.mem_append.1 hz with hz | hz; exact HAL.out z hz; simp at hz; subst hz; exact HRT.out.symm), HB5⟩
              case measure => have := HLT.out; simp [RowKit.intOf]; omega
            · obtain ⟨kk, hk1, hk2⟩ := at_kept_yes HD.out.symm
              have HK := hid hk1
              have hkz : decide ((0 : Int) ≤ (kk : Int)) = true := decide_eq_true (by omega)
              have hkp : (0 : Int) ≤ (kk : Int) := by omega
              clear hk1 hk2
              go_wp2_with (first
                | ((with_reducible refine loadEl (T := 74) (x := ?lx2) (b := ?lb2) (o := ?lo2) uR iR y.e ?lg2 ?lp2 ?lxx2 ?lc2 ?_); (case lg2 => rfl); (case lp2 => rfl); (case lxx2 => rfl); (case lc2 => exact HC.out _ HB.out))
                | (go_at_call 30; refine hRi.mono ?_; rintro q w1 ⟨rfl, hB1⟩; have HB1 := hid (HB.out.trans (hB1.mono HB.out.size)); have HI1 := hid (HI.out.on hB1)
                   have kid : w1.cell? ⟨b, o + k * 19, none⟩ = some (.int .i64 y.e.c.i) := HC.out _ HB1.out 0 _ rfl
                   have hA := rAt HI1.out (Nat.le_trans (keptE_len _) (by rw [List.length_take]; omega)) y.e.c.i
                   rw [HK.out] at hA
                   clear hB1)
                | (go_at_call 31; refine hA.mono ?_; rintro q w' ⟨rfl, rfl⟩)
                | ((with_reducible refine loadEl (T := 74) (x := ?lx3) (b := ?lb3) (o := ?lo3) uR iR y.e ?lg3 ?lp3 ?lxx3 ?lc3 ?_); (case lg3 => rfl); (case lp3 => rfl); (case lxx3 => rfl); (case lc3 => exact HC.out _ HB1.out))
                | fail)
              go_at_call 32
              refine (rSet HI1.out (Nat.le_trans (keptE_len _) (by rw [List.length_take]; omega))).mono ?_
              rintro q W3 ⟨rfl, ⟨v3, hJ3⟩, hT3⟩
              rw [← keptE_snoc, ← take_nextE HE.out] at hJ3
              have HJ3 := hid hJ3
              have HB3 := hid (HB1.out.trans (hT3.below (fun k e => by have := HP.out; omega) HB1.out.size))
              have k9 : W3.cell? ⟨b, o + k * 19 + 9, none⟩ = some (.int .i64 y.e.hi) := HC.out _ HB3.out 9 _ rfl
              clear hJ3 hT3
              go_wp2_with fail
              go_at_call 33
              refine (rSee HJ3.out y.e.hi).mono ?_
              rintro q W4 ⟨rfl, hJ4, hT4⟩
              have HJ4 := hid hJ4
              have HB4 := hid (HB3.out.trans (hT4.below (fun k e => by have := HP.out; omega) HB3.out.size))
              have k17 : W4.cell? ⟨b, o + k * 19 + 17, none⟩ = some (.int .i64 y.e.vt) := HC.out _ HB4.out 17 _ rfl
              clear hJ4 hT4 k9
              go_wp2_with fail
              go_at_call 33
              refine (rSee HJ4.out y.e.vt).mono ?_
              rintro q W5 ⟨rfl, hJ5, hT5⟩
              have HJ5 := hid hJ5
              have HB5 := hid (HB4.out.trans (hT5.below (fun k e => by have := HP.out; omega) HB4.out.size))
              clear hJ5 hT5 k17
              go_wp2_with fail
              go_roundw
              case rel => exact ⟨k + 1, true, v3, u, by have := HLT.out; omega, by go_num, rfl, hid (by rw [take_nextE HE.out, seeN_snoc, ← take_nextE HE.out]; exact HJ5.out), hid ⟨fun h => (by cases h), fun h => by rw [take_nextE HE.out, List.map_append] at h; exact absurd (hasE_iff.1 HD.out.symm) (fun hm => (List.nodup_append.1 h).2.2 _ hm _ (by simp) rfl)⟩, hid (fun z hz => by rw [take_nextE HE.out] at hz; rcases List.mem_append.1 hz with hz | hz; exact HAL.out z hz; simp at hz; subst hz; exact HRT.out.symm), HB5⟩
              case measure => have := HLT.out; simp [RowKit.intOf]; omega
          · go_wp2_with (first
              | ((with_reducible refine loadEl (T := 74) (x := ?lx2) (b := ?lb2) (o := ?lo2) uR iR y.e ?lg2 ?lp2 ?lxx2 ?lc2 ?_); (case lg2 => rfl); (case lp2 => rfl); (case lxx2 => rfl); (case lc2 => exact HC.out _ HB.out))
              | (go_at_call 30; refine hRi.mono ?_; rintro q w1 ⟨rfl, hB1⟩; have HB1 := hid (HB.out.trans (hB1.mono HB.out.size)); have HI1 := hid (HI.out.on hB1)
                 clear hB1)
              | ((with_reducible refine loadEl (T := 74) (x := ?lx3) (b := ?lb3) (o := ?lo3) uR iR y.e ?lg3 ?lp3 ?lxx3 ?lc3 ?_); (case lg3 => rfl); (case lp3 => rfl); (case lxx3 => rfl); (case lc3 => exact HC.out _ HB1.out))
              | fail)
            go_at_call 32
            refine (rSet HI1.out (Nat.le_trans (keptE_len _) (by rw [List.length_take]; omega))).mono ?_
            rintro q W3 ⟨rfl, ⟨v3, hJ3⟩, hT3⟩
            rw [← keptE_snoc, ← take_nextE HE.out] at hJ3
            have HJ3 := hid hJ3
            have HB3 := hid (HB1.out.trans (hT3.below (fun k e => by have := HP.out; omega) HB1.out.size))
            have k9 : W3.cell? ⟨b, o + k * 19 + 9, none⟩ = some (.int .i64 y.e.hi) := HC.out _ HB3.out 9 _ rfl
            clear hJ3 hT3
            go_wp2_with fail
            go_at_call 33
            refine (rSee HJ3.out y.e.hi).mono ?_
            rintro q W4 ⟨rfl, hJ4, hT4⟩
            have HJ4 := hid hJ4
            have HB4 := hid (HB3.out.trans (hT4.below (fun k e => by have := HP.out; omega) HB3.out.size))
            have k17 : W4.cell? ⟨b, o + k * 19 + 17, none⟩ = some (.int .i64 y.e.vt) := HC.out _ HB4.out 17 _ rfl
            clear hJ4 hT4 k9
            go_wp2_with fail
            go_at_call 33
            refine (rSee HJ4.out y.e.vt).mono ?_
            rintro q W5 ⟨rfl, hJ5, hT5⟩
            have HJ5 := hid hJ5
            have HB5 := hid (HB4.out.trans (hT5.below (fun k e => by have := HP.out; omega) HB4.out.size))
            clear hJ5 hT5 k17
            go_wp2_with fail
            go_roundw
            case rel => exact ⟨k + 1, true, v3, u, by have := HLT.out; omega, by go_num, rfl, hid (by rw [take_nextE HE.out, seeN_snoc, ← take_nextE HE.out]; exact HJ5.out), hid ⟨fun h => (by cases h), fun h => by rw [take_nextE HE.out, List.map_append] at h; exact HTW.out.2 (List.nodup_append.1 h).1⟩, hid (fun z hz => by rw [take_nextE HE.out] at hz; rcases List.mem_append.1 hz with hz | hz; exact HAL.out z hz; simp at hz; subst hz; exact HRT.out.symm), HB5⟩
            case measure => have := HLT.out; simp [RowKit.intOf]; omega
      · have hkm : k = m := by omega
        subst hkm
        rw [HN.out, List.take_length] at HI HTW HAL
        have hall : l.all En.right = true := List.all_eq_true.2 HAL.out
        have HALL := hid hall
        clear hall
        rcases t with _ | _
        · obtain rfl : r = 0 := by rw [HR.out]; unfold newR; rw [if_pos ⟨HIN.out.1, HIN.out.2, HALL.out⟩, if_pos (HTW.out.1 (by first | trivial | rfl))]
          go_wp2_with fail
          go_ret2
          exact ⟨HB.out, p, rfl, ⟨v, u, HI.out⟩, Nat.le_of_eq HP.out⟩
        · obtain rfl : r = 6 := by rw [HR.out]; unfold newR; rw [if_pos ⟨HIN.out.1, HIN.out.2, HALL.out⟩, if_neg fun h => by have := HTW.out.2 h; cases this]
          go_wp2_with fail
          go_ret2
          exact ⟨HB.out, rfl⟩
end Go.Proofs.YtogoibigabpkhaaGreat
