import Derived.Test.YtogoibigabpkhaaGreatQRAskM
/- Killers, Absent of the document's index. -/
namespace Go.Proofs.YtogoibigabpkhaaGreat
set_option linter.unusedVariables false
open Go.RowKit
open Go.Lib (hid)

set_option maxHeartbeats 8000000 in
set_option maxRecDepth 100000 in
theorem rKillers {w : World} {p : Nat} {nd c0 : Int} {v u : Value} {xs : List En} {ids : List Int} (h : Rx w p nd c0 v u (keptE xs) ids) (hlx : xs.length ≤ 20000) (hA : AllAt w xs) (hs : ∀ y ∈ xs, y.short 1024) (c : C7) (t : Int) : Calls Tryz.prog 49 #[ptr p, c.v, .int .i64 t] w fun e w' => ∃ r, e = .returned r ∧ OwnI w' w.heap.size r (idsL (touchL xs c (killB t c.i))) ∧ Below w.heap.size w w' := by
  have HW : Hid (Below w.heap.size w (w.alloc (.cells #[.int .i64 c.i, .int .i64 c.k, .int .i64 c.s, .int .i64 c.t, .int .i64 c.d, .int .i64 c.p, .int .i64 c.q] 40))) := hid ((Below.refl _ w).alloc (Nat.le_refl _) _)
  have HCB : Hid ((w.alloc (.cells #[.int .i64 c.i, .int .i64 c.k, .int .i64 c.s, .int .i64 c.t, .int .i64 c.d, .int .i64 c.p, .int .i64 c.q] 40)).heap[w.heap.size]? = some (.cells #[.int .i64 c.i, .int .i64 c.k, .int .i64 c.s, .int .i64 c.t, .int .i64 c.d, .int .i64 c.p, .int .i64 c.q] 40 (0, 0))) := hid (heap_alloc_new w _)
  have HJ := hid (h.on HW.out)
  have HA := hid (fun y (hy : y ∈ xs) => (hA y hy).on HW.out)
  obtain ⟨m, hm⟩ : ∃ m, m = (keptG En.id xs).length := ⟨_, rfl⟩
  have HN := hid hm
  have HM := hid (show m ≤ 20000 by rw [hm]; exact Nat.le_trans (kept_lenG xs) hlx)
  obtain ⟨b, o, cap, a, rfl, ha, hc, hb⟩ := OwnG.slG kE HJ.out.es
  rw [show (keptE xs).length = m by rw [hm]; unfold keptE; rw [List.length_map]] at ha hb HJ h
  have HCC := hid hc
  clear h hA hm hc
  go_enter Tryz.func49, Tryz.ntmps49
  go_wp2_with fail
  generalize w.alloc (.cells #[.int .i64 c.i, .int .i64 c.k, .int .i64 c.s, .int .i64 c.t, .int .i64 c.d, .int .i64 c.p, .int .i64 c.q] 40) = W0 at HW HCB HJ HA HCC hb ⊢
  have HQ0 := hid (show w.heap.size < W0.heap.size from (Array.getElem?_eq_some_iff.1 HCB.out).1)
  go_loopw [7, 8] (fun u i wr => ∃ (k : Nat), k ≤ m ∧ i = .int .i64 k ∧ OwnI wr W0.heap.size u (idsL ((selK xs c (killB t c.i) k).map fun y => y.e.c)) ∧ Below W0.heap.size W0 wr) (fun _ i _ => m - (RowKit.intOf i).toNat)
  case atStart => exact ⟨0, Nat.zero_le _, rfl, OwnI.nil _ _, Below.refl _ _⟩
  case round =>
    obtain ⟨k, hk, rfl, hown, hB⟩ := hrel
    have HO := hid hown
    have HB := hid hB
    have k2 := (HJ.out.on HB.out).cells.2.2.1
    obtain ⟨g0, cap0, n0, rfl, -⟩ := hown.asSlice'
    clear hown hB
    have hmb : m ≤ 20000 := HM.out
    by_cases hlt : k < m
    · obtain rfl := ha (by omega)
      obtain ⟨y, hy⟩ : ∃ y, (keptG En.id xs)[k]? = some y := ⟨(keptG En.id xs)[k]'(by rw [← HN.out]; exact hlt), List.getElem?_eq_getElem (by rw [← HN.out]; exact hlt)⟩
      have hbw := hb (by omega)
      have hye : (keptE xs)[k]? = some y.e := by unfold keptE; rw [List.getElem?_map, hy]; rfl
      have HC : Hid (wr.rangeAt b (o + k * 19) y.e.list) := hid ((HCC.out.on HB.out fun _ => hbw) k y.e hye)
      have hin := kept_in hy
      have HY := hid hy
      have hsy := hs y hin
      have HYA := hid (fun W (hW : Below W0.heap.size W0 W) => (HA.out y hin).on hW)
      have HCK := hid (fun (W : World) (hW : Below W0.heap.size W0 W) => heapB HCB.out hW HQ0.out)
      have HLT := hid hlt
      have HLE : Hid ((idsL ((selK xs c (killB t c.i) k).map fun y => y.e.c)).length ≤ 20000) := hid (by have := selK_len xs c (killB t c.i) k; unfold idsL; simp only [List.length_map]; omega)
      clear hy hye hin
      obtain ⟨tb, htb⟩ : ∃ tb, tb = touchB y.e.c c := ⟨_, rfl⟩
      have HTC := hid (fun W => rTouches y.e c W)
      rw [← htb] at HTC
      have HTB := hid htb
      clear htb
      obtain ⟨dn, hdn⟩ : ∃ dn, dn = y.e.dn := ⟨_, rfl⟩
      have HDN := hid hdn
      clear hdn
      rcases tb with _ | _
      · go_wp2_with (first
          | ((with_reducible refine loadEl (T := 74) (x := ?lx1) (b := ?lb1) (o := ?lo1) uR iR y.e ?lg1 ?lp1 ?lxx1 ?lc1 ?_); (case lg1 => rfl); (case lp1 => rfl); (case lxx1 => rfl); (case lc1 => exact HC.out))
          | ((with_reducible refine storeR (x := ?sx1) (y := ?sy1) (b := wr.heap.size) (T := 74) y.e ?sg1 ?so1 ?sxx1 ?syy1 ?sc1 ?_); (case sg1 => rfl); (case so1 => rfl); (case sxx1 => rfl); (case syy1 => rfl); (case sc1 => exact ⟨_, heap_alloc_new wr zeroEr, rfl⟩); intro W4 hO4 hU4
             have hb4 : Below wr.heap.size wr W4 := ((Below.refl _ wr).alloc (Nat.le_refl _) zeroEr).trans (hU4.below _ (Nat.le_refl _))
             have HX4 := hid hO4
             have HO4 := hid (ownI_below HO.out hb4)
             have HB4 := hid (HB.out.trans (hb4.mono HB.out.size))
             have hcc := HCK.out W4 HB4.out
             have c0 : W4.cell? ⟨w.heap.size, 0, none⟩ = some (.int .i64 c.i) := (cellAt' hcc 0).trans rfl; have c1 : W4.cell? ⟨w.heap.size, 1, none⟩ = some (.int .i64 c.k) := (cellAt' hcc 1).trans rfl; have c2 : W4.cell? ⟨w.heap.size, 2, none⟩ = some (.int .i64 c.s) := (cellAt' hcc 2).trans rfl; have c3 : W4.cell? ⟨w.heap.size, 3, none⟩ = some (.int .i64 c.t) := (cellAt' hcc 3).trans rfl; have c4 : W4.cell? ⟨w.heap.size, 4, none⟩ = some (.int .i64 c.d) := (cellAt' hcc 4).trans rfl; have c5 : W4.cell? ⟨w.heap.size, 5, none⟩ = some (.int .i64 c.p) := (cellAt' hcc 5).trans rfl; have c6 : W4.cell? ⟨w.heap.size, 6, none⟩ = some (.int .i64 c.q) := (cellAt' hcc 6).trans rfl
             clear hU4 hb4 hcc hO4)
          | ((with_reducible refine loadR (x := ?cx2) (b := wr.heap.size) (T := 74) y.e ?cg2 ?co2 ?cxx2 ?cc2 ?_); (case cg2 => rfl); (case co2 => rfl); (case cxx2 => rfl); (case cc2 => exact HX4.out))
          | (go_at_call 83; refine (HTC.out W4).mono ?_; rintro q W5 ⟨rfl, hb5⟩
             have HX5 : Hid (Ob W5 wr.heap.size 74 y.e) := hid (heapB HX4.out hb5 (Array.getElem?_eq_some_iff.1 HX4.out).1)
             have HO5 := hid (ownI_below HO4.out hb5)
             have HB5 := hid (HB4.out.trans (hb5.mono HB4.out.size))
             clear hb5)
          | fail)
        go_roundw
        case rel => exact ⟨k + 1, by have := HLT.out; omega, by go_num, by rw [selK_next HY.out, if_neg (by show ¬ (touchB y.e.c c && killB t c.i y) = true; rw [← HTB.out]; simp)]; exact HO5.out, HB5.out⟩
        case measure => have := HLT.out; simp [RowKit.intOf]; omega
      · rcases dn with _ | _
        · go_wp2_with (first
            | ((with_reducible refine loadEl (T := 74) (x := ?lx1) (b := ?lb1) (o := ?lo1) uR iR y.e ?lg1 ?lp1 ?lxx1 ?lc1 ?_); (case lg1 => rfl); (case lp1 => rfl); (case lxx1 => rfl); (case lc1 => exact HC.out))
            | ((with_reducible refine storeR (x := ?sx1) (y := ?sy1) (b := wr.heap.size) (T := 74) y.e ?sg1 ?so1 ?sxx1 ?syy1 ?sc1 ?_); (case sg1 => rfl); (case so1 => rfl); (case sxx1 => rfl); (case syy1 => rfl); (case sc1 => exact ⟨_, heap_alloc_new wr zeroEr, rfl⟩); intro W4 hO4 hU4
               have hb4 : Below wr.heap.size wr W4 := ((Below.refl _ wr).alloc (Nat.le_refl _) zeroEr).trans (hU4.below _ (Nat.le_refl _))
               have HX4 := hid hO4
               have HO4 := hid (ownI_below HO.out hb4)
               have HB4 := hid (HB.out.trans (hb4.mono HB.out.size))
               have hcc := HCK.out W4 HB4.out
               have c0 : W4.cell? ⟨w.heap.size, 0, none⟩ = some (.int .i64 c.i) := (cellAt' hcc 0).trans rfl; have c1 : W4.cell? ⟨w.heap.size, 1, none⟩ = some (.int .i64 c.k) := (cellAt' hcc 1).trans rfl; have c2 : W4.cell? ⟨w.heap.size, 2, none⟩ = some (.int .i64 c.s) := (cellAt' hcc 2).trans rfl; have c3 : W4.cell? ⟨w.heap.size, 3, none⟩ = some (.int .i64 c.t) := (cellAt' hcc 3).trans rfl; have c4 : W4.cell? ⟨w.heap.size, 4, none⟩ = some (.int .i64 c.d) := (cellAt' hcc 4).trans rfl; have c5 : W4.cell? ⟨w.heap.size, 5, none⟩ = some (.int .i64 c.p) := (cellAt' hcc 5).trans rfl; have c6 : W4.cell? ⟨w.heap.size, 6, none⟩ = some (.int .i64 c.q) := (cellAt' hcc 6).trans rfl
               clear hU4 hb4 hcc hO4)
            | ((with_reducible refine loadR (x := ?cx2) (b := wr.heap.size) (T := 74) y.e ?cg2 ?co2 ?cxx2 ?cc2 ?_); (case cg2 => rfl); (case co2 => rfl); (case cxx2 => rfl); (case cc2 => exact HX4.out))
            | (go_at_call 83; refine (HTC.out W4).mono ?_; rintro q W5 ⟨rfl, hb5⟩
               have HX5 : Hid (Ob W5 wr.heap.size 74 y.e) := hid (heapB HX4.out hb5 (Array.getElem?_eq_some_iff.1 HX4.out).1)
               have HO5 := hid (ownI_below HO4.out hb5)
               have HB5 := hid (HB4.out.trans (hb5.mono HB4.out.size))
               have hcc5 := HCK.out W5 HB5.out
               have g0c : W5.cell? ⟨w.heap.size, 0, none⟩ = some (.int .i64 c.i) := (cellAt' hcc5 0).trans rfl
               have d16 : W5.cell? ⟨wr.heap.size, 16, none⟩ = some (.bool false) := by have := HX5.out.cell (j := 16) (v := .bool y.e.dn) rfl; rwa [← HDN.out] at this
               have d17 := HX5.out.cell (j := 17) (v := .int .i64 y.e.vt) rfl
               have d18 := HX5.out.cell (j := 18) (v := y.e.vp.v) rfl
               clear hcc5
               clear hb5)
            | fail)
          go_roundw
          case rel => exact ⟨k + 1, by have := HLT.out; omega, by go_num, by rw [selK_next HY.out, if_neg (by show ¬ (touchB y.e.c c && (y.e.dn && (decide (t < y.e.vt) && !foundB y.v c.i))) = true; rw [← HDN.out]; simp)]; exact HO5.out, HB5.out⟩
          case measure => have := HLT.out; simp [RowKit.intOf]; omega
        · by_cases hvt : t < y.e.vt
          · obtain ⟨z, hz⟩ : ∃ z, z = placeV y.v c.i := ⟨_, rfl⟩
            have HZ := hid hz
            clear hz
            have HVT := hid hvt
            by_cases hz0 : z < 0
            · have HFB := hid ((found_neg y.v c.i).1 (by rw [← HZ.out]; exact hz0))
              go_wp2_with (first
                | ((with_reducible refine loadEl (T := 74) (x := ?lx1) (b := ?lb1) (o := ?lo1) uR iR y.e ?lg1 ?lp1 ?lxx1 ?lc1 ?_); (case lg1 => rfl); (case lp1 => rfl); (case lxx1 => rfl); (case lc1 => exact HC.out))
                | ((with_reducible refine storeR (x := ?sx1) (y := ?sy1) (b := wr.heap.size) (T := 74) y.e ?sg1 ?so1 ?sxx1 ?syy1 ?sc1 ?_); (case sg1 => rfl); (case so1 => rfl); (case sxx1 => rfl); (case syy1 => rfl); (case sc1 => exact ⟨_, heap_alloc_new wr zeroEr, rfl⟩); intro W4 hO4 hU4
                   have hb4 : Below wr.heap.size wr W4 := ((Below.refl _ wr).alloc (Nat.le_refl _) zeroEr).trans (hU4.below _ (Nat.le_refl _))
                   have HX4 := hid hO4
                   have HO4 := hid (ownI_below HO.out hb4)
                   have HB4 := hid (HB.out.trans (hb4.mono HB.out.size))
                   have hcc := HCK.out W4 HB4.out
                   have c0 : W4.cell? ⟨w.heap.size, 0, none⟩ = some (.int .i64 c.i) := (cellAt' hcc 0).trans rfl; have c1 : W4.cell? ⟨w.heap.size, 1, none⟩ = some (.int .i64 c.k) := (cellAt' hcc 1).trans rfl; have c2 : W4.cell? ⟨w.heap.size, 2, none⟩ = some (.int .i64 c.s) := (cellAt' hcc 2).trans rfl; have c3 : W4.cell? ⟨w.heap.size, 3, none⟩ = some (.int .i64 c.t) := (cellAt' hcc 3).trans rfl; have c4 : W4.cell? ⟨w.heap.size, 4, none⟩ = some (.int .i64 c.d) := (cellAt' hcc 4).trans rfl; have c5 : W4.cell? ⟨w.heap.size, 5, none⟩ = some (.int .i64 c.p) := (cellAt' hcc 5).trans rfl; have c6 : W4.cell? ⟨w.heap.size, 6, none⟩ = some (.int .i64 c.q) := (cellAt' hcc 6).trans rfl
                   clear hU4 hb4 hcc hO4)
                | ((with_reducible refine loadR (x := ?cx2) (b := wr.heap.size) (T := 74) y.e ?cg2 ?co2 ?cxx2 ?cc2 ?_); (case cg2 => rfl); (case co2 => rfl); (case cxx2 => rfl); (case cc2 => exact HX4.out))
                | (go_at_call 83; refine (HTC.out W4).mono ?_; rintro q W5 ⟨rfl, hb5⟩
                   have HX5 : Hid (Ob W5 wr.heap.size 74 y.e) := hid (heapB HX4.out hb5 (Array.getElem?_eq_some_iff.1 HX4.out).1)
                   have HO5 := hid (ownI_below HO4.out hb5)
                   have HB5 := hid (HB4.out.trans (hb5.mono HB4.out.size))
                   have hcc5 := HCK.out W5 HB5.out
                   have g0c : W5.cell? ⟨w.heap.size, 0, none⟩ = some (.int .i64 c.i) := (cellAt' hcc5 0).trans rfl
                   have d16 : W5.cell? ⟨wr.heap.size, 16, none⟩ = some (.bool true) := by have := HX5.out.cell (j := 16) (v := .bool y.e.dn) rfl; rwa [← HDN.out] at this
                   have d17 := HX5.out.cell (j := 17) (v := .int .i64 y.e.vt) rfl
                   have d18 := HX5.out.cell (j := 18) (v := y.e.vp.v) rfl
                   clear hcc5
                   have hF := rFind ((HYA.out W5 HB5.out).2.2) (by have := hsy.2.2; omega) c.i
                   rw [← HZ.out] at hF
                   have f0 := HX5.out.cell (j := 0) (v := .int .i64 y.e.c.i) rfl; have f1 := HX5.out.cell (j := 1) (v := .int .i64 y.e.c.k) rfl; have f2 := HX5.out.cell (j := 2) (v := .int .i64 y.e.c.s) rfl; have f3 := HX5.out.cell (j := 3) (v := .int .i64 y.e.c.t) rfl; have f4 := HX5.out.cell (j := 4) (v := .int .i64 y.e.c.d) rfl; have f5 := HX5.out.cell (j := 5) (v := .int .i64 y.e.c.p) rfl; have f6 := HX5.out.cell (j := 6) (v := .int .i64 y.e.c.q) rfl
                   clear hb5)
                | (go_at_call 86; refine hF.mono ?_; rintro q w' ⟨rfl, rfl⟩)
                | (at_builtin; (with_reducible refine wpList_apI (s := ?as0) (x := ?ax0) (l := (idsL ((selK xs c (killB t c.i) k).map fun y => y.e.c))) (B := W0.heap.size) (q := W5.heap.size) y.e.c.i ?ag0 ?ao0 ?av0 ?aw0 (HO5.out.alloc _) (cellNewI _ _) (by have := HLE.out; omega) (by have := HB5.out.size; (try rw [World.size_alloc]); omega) ?_); (case ag0 => rfl); (case ao0 => rfl); (case av0 => rfl); (case aw0 => rfl); intro v9 W9 hO9 hg9; have HB9 := hid ((HB5.out.alloc HB5.out.size _).grown hg9 (by have := HB5.out.size; (try rw [World.size_alloc]); omega) (fun j hj => (HO5.out.lt j hj).1)); have HN9 := hid hO9; obtain ⟨g9, cap9, n9, rfl, -⟩ := hO9.asSlice'; clear hO9 hg9)
                | fail)
              go_roundw
              case rel => exact ⟨k + 1, by have := HLT.out; omega, by go_num, by rw [selK_next HY.out, if_pos (by show (touchB y.e.c c && (y.e.dn && (decide (t < y.e.vt) && !foundB y.v c.i))) = true; rw [← HTB.out, ← HDN.out, decide_eq_true (show t < y.e.vt by have := HVT.out; omega), HFB.out]; rfl), List.map_append]; unfold idsL; rw [List.map_append]; exact HN9.out, HB9.out⟩
              case measure => have := HLT.out; simp [RowKit.intOf]; omega
            · have HFB := hid (show foundB y.v c.i = true by rcases hf : foundB y.v c.i with _ | _; exact absurd (by rw [HZ.out]; exact (found_neg y.v c.i).2 hf) hz0; rfl)
              go_wp2_with (first
                | ((with_reducible refine loadEl (T := 74) (x := ?lx1) (b := ?lb1) (o := ?lo1) uR iR y.e ?lg1 ?lp1 ?lxx1 ?lc1 ?_); (case lg1 => rfl); (case lp1 => rfl); (case lxx1 => rfl); (case lc1 => exact HC.out))
                | ((with_reducible refine storeR (x := ?sx1) (y := ?sy1) (b := wr.heap.size) (T := 74) y.e ?sg1 ?so1 ?sxx1 ?syy1 ?sc1 ?_); (case sg1 => rfl); (case so1 => rfl); (case sxx1 => rfl); (case syy1 => rfl); (case sc1 => exact ⟨_, heap_alloc_new wr zeroEr, rfl⟩); intro W4 hO4 hU4
                   have hb4 : Below wr.heap.size wr W4 := ((Below.refl _ wr).alloc (Nat.le_refl _) zeroEr).trans (hU4.below _ (Nat.le_refl _))
                   have HX4 := hid hO4
                   have HO4 := hid (ownI_below HO.out hb4)
                   have HB4 := hid (HB.out.trans (hb4.mono HB.out.size))
                   have hcc := HCK.out W4 HB4.out
                   have c0 : W4.cell? ⟨w.heap.size, 0, none⟩ = some (.int .i64 c.i) := (cellAt' hcc 0).trans rfl; have c1 : W4.cell? ⟨w.heap.size, 1, none⟩ = some (.int .i64 c.k) := (cellAt' hcc 1).trans rfl; have c2 : W4.cell? ⟨w.heap.size, 2, none⟩ = some (.int .i64 c.s) := (cellAt' hcc 2).trans rfl; have c3 : W4.cell? ⟨w.heap.size, 3, none⟩ = some (.int .i64 c.t) := (cellAt' hcc 3).trans rfl; have c4 : W4.cell? ⟨w.heap.size, 4, none⟩ = some (.int .i64 c.d) := (cellAt' hcc 4).trans rfl; have c5 : W4.cell? ⟨w.heap.size, 5, none⟩ = some (.int .i64 c.p) := (cellAt' hcc 5).trans rfl; have c6 : W4.cell? ⟨w.heap.size, 6, none⟩ = some (.int .i64 c.q) := (cellAt' hcc 6).trans rfl
                   clear hU4 hb4 hcc hO4)
                | ((with_reducible refine loadR (x := ?cx2) (b := wr.heap.size) (T := 74) y.e ?cg2 ?co2 ?cxx2 ?cc2 ?_); (case cg2 => rfl); (case co2 => rfl); (case cxx2 => rfl); (case cc2 => exact HX4.out))
                | (go_at_call 83; refine (HTC.out W4).mono ?_; rintro q W5 ⟨rfl, hb5⟩
                   have HX5 : Hid (Ob W5 wr.heap.size 74 y.e) := hid (heapB HX4.out hb5 (Array.getElem?_eq_some_iff.1 HX4.out).1)
                   have HO5 := hid (ownI_below HO4.out hb5)
                   have HB5 := hid (HB4.out.trans (hb5.mono HB4.out.size))
                   have hcc5 := HCK.out W5 HB5.out
                   have g0c : W5.cell? ⟨w.heap.size, 0, none⟩ = some (.int .i64 c.i) := (cellAt' hcc5 0).trans rfl
                   have d16 : W5.cell? ⟨wr.heap.size, 16, none⟩ = some (.bool true) := by have := HX5.out.cell (j := 16) (v := .bool y.e.dn) rfl; rwa [← HDN.out] at this
                   have d17 := HX5.out.cell (j := 17) (v := .int .i64 y.e.vt) rfl
                   have d18 := HX5.out.cell (j := 18) (v := y.e.vp.v) rfl
                   clear hcc5
                   have hF := rFind ((HYA.out W5 HB5.out).2.2) (by have := hsy.2.2; omega) c.i
                   rw [← HZ.out] at hF
                   clear hb5)
                | (go_at_call 86; refine hF.mono ?_; rintro q w' ⟨rfl, rfl⟩)
                | fail)
              go_roundw
              case rel => exact ⟨k + 1, by have := HLT.out; omega, by go_num, by rw [selK_next HY.out, if_neg (by show ¬ (touchB y.e.c c && (y.e.dn && (decide (t < y.e.vt) && !foundB y.v c.i))) = true; rw [HFB.out]; simp)]; exact HO5.out, HB5.out⟩
              case measure => have := HLT.out; simp [RowKit.intOf]; omega
          · have HVT := hid hvt
            go_wp2_with (first
              | ((with_reducible refine loadEl (T := 74) (x := ?lx1) (b := ?lb1) (o := ?lo1) uR iR y.e ?lg1 ?lp1 ?lxx1 ?lc1 ?_); (case lg1 => rfl); (case lp1 => rfl); (case lxx1 => rfl); (case lc1 => exact HC.out))
              | ((with_reducible refine storeR (x := ?sx1) (y := ?sy1) (b := wr.heap.size) (T := 74) y.e ?sg1 ?so1 ?sxx1 ?syy1 ?sc1 ?_); (case sg1 => rfl); (case so1 => rfl); (case sxx1 => rfl); (case syy1 => rfl); (case sc1 => exact ⟨_, heap_alloc_new wr zeroEr, rfl⟩); intro W4 hO4 hU4
                 have hb4 : Below wr.heap.size wr W4 := ((Below.refl _ wr).alloc (Nat.le_refl _) zeroEr).trans (hU4.below _ (Nat.le_refl _))
                 have HX4 := hid hO4
                 have HO4 := hid (ownI_below HO.out hb4)
                 have HB4 := hid (HB.out.trans (hb4.mono HB.out.size))
                 have hcc := HCK.out W4 HB4.out
                 have c0 : W4.cell? ⟨w.heap.size, 0, none⟩ = some (.int .i64 c.i) := (cellAt' hcc 0).trans rfl; have c1 : W4.cell? ⟨w.heap.size, 1, none⟩ = some (.int .i64 c.k) := (cellAt' hcc 1).trans rfl; have c2 : W4.cell? ⟨w.heap.size, 2, none⟩ = some (.int .i64 c.s) := (cellAt' hcc 2).trans rfl; have c3 : W4.cell? ⟨w.heap.size, 3, none⟩ = some (.int .i64 c.t) := (cellAt' hcc 3).trans rfl; have c4 : W4.cell? ⟨w.heap.size, 4, none⟩ = some (.int .i64 c.d) := (cellAt' hcc 4).trans rfl; have c5 : W4.cell? ⟨w.heap.size, 5, none⟩ = some (.int .i64 c.p) := (cellAt' hcc 5).trans rfl; have c6 : W4.cell? ⟨w.heap.size, 6, none⟩ = some (.int .i64 c.q) := (cellAt' hcc 6).trans rfl
                 clear hU4 hb4 hcc hO4)
              | ((with_reducible refine loadR (x := ?cx2) (b := wr.heap.size) (T := 74) y.e ?cg2 ?co2 ?cxx2 ?cc2 ?_); (case cg2 => rfl); (case co2 => rfl); (case cxx2 => rfl); (case cc2 => exact HX4.out))
              | (go_at_call 83; refine (HTC.out W4).mono ?_; rintro q W5 ⟨rfl, hb5⟩
                 have HX5 : Hid (Ob W5 wr.heap.size 74 y.e) := hid (heapB HX4.out hb5 (Array.getElem?_eq_some_iff.1 HX4.out).1)
                 have HO5 := hid (ownI_below HO4.out hb5)
                 have HB5 := hid (HB4.out.trans (hb5.mono HB4.out.size))
                 have hcc5 := HCK.out W5 HB5.out
                 have g0c : W5.cell? ⟨w.heap.size, 0, none⟩ = some (.int .i64 c.i) := (cellAt' hcc5 0).trans rfl
                 have d16 : W5.cell? ⟨wr.heap.size, 16, none⟩ = some (.bool true) := by have := HX5.out.cell (j := 16) (v := .bool y.e.dn) rfl; rwa [← HDN.out] at this
                 have d17 := HX5.out.cell (j := 17) (v := .int .i64 y.e.vt) rfl
                 have d18 := HX5.out.cell (j := 18) (v := y.e.vp.v) rfl
                 clear hcc5
                 clear hb5)
              | fail)
            go_roundw
            case rel => exact ⟨k + 1, by have := HLT.out; omega, by go_num, by rw [selK_next HY.out, if_neg (by show ¬ (touchB y.e.c c && (y.e.dn && (decide (t < y.e.vt) && !foundB y.v c.i))) = true; rw [decide_eq_false (show ¬ t < y.e.vt by have := HVT.out; omega)]; simp)]; exact HO5.out, HB5.out⟩
            case measure => have := HLT.out; simp [RowKit.intOf]; omega
    · have hkm : k = m := by omega
      subst hkm
      have HF : Hid (OwnI wr W0.heap.size (.slice g0 n0 cap0) (idsL (((keptG En.id xs).filter (sel c (killB t c.i))).map fun y => y.e.c))) := hid (by have := HO.out; unfold selK at this; rw [HN.out, List.take_length] at this; exact this)
      go_wp2_with fail
      go_ret
      exact ⟨_, rfl, own_monoB HF.out (by have := HQ0.out; omega), HW.out.trans (HB.out.mono (by have := HQ0.out; omega))⟩
set_option maxHeartbeats 8000000 in
set_option maxRecDepth 100000 in
theorem rAbsent {w : World} {p : Nat} {nd c0 : Int} {v u : Value} {xs : List En} {ids : List Int} (h : Rx w p nd c0 v u (keptE xs) ids) (hlx : xs.length ≤ 20000) (hA : AllAt w xs) (hs : ∀ y ∈ xs, y.short 1024) (c : C7) (t : Int) {pa : Option Addr} {pn pc : Nat} {ps : List C7} (hp : Sl w (.slice pa pn pc) ps) (hps : ps.length ≤ 1024) (d : Bool) : Calls Tryz.prog 50 #[ptr p, c.v, .int .i64 t, .slice pa pn pc, .bool d] w fun e w' => ∃ r, e = .returned r ∧ OwnI w' w.heap.size r (idsL (touchL xs c (absB t ps d))) ∧ Below w.heap.size w w' := by
  have HW : Hid (Below w.heap.size w (w.alloc (.cells #[.int .i64 c.i, .int .i64 c.k, .int .i64 c.s, .int .i64 c.t, .int .i64 c.d, .int .i64 c.p, .int .i64 c.q] 40))) := hid ((Below.refl _ w).alloc (Nat.le_refl _) _)
  have HCB : Hid ((w.alloc (.cells #[.int .i64 c.i, .int .i64 c.k, .int .i64 c.s, .int .i64 c.t, .int .i64 c.d, .int .i64 c.p, .int .i64 c.q] 40)).heap[w.heap.size]? = some (.cells #[.int .i64 c.i, .int .i64 c.k, .int .i64 c.s, .int .i64 c.t, .int .i64 c.d, .int .i64 c.p, .int .i64 c.q] 40 (0, 0))) := hid (heap_alloc_new w _)
  have HJ := hid (h.on HW.out)
  have HA := hid (fun y (hy : y ∈ xs) => (hA y hy).on HW.out)
  have HPS := hid (hp.on HW.out)
  obtain ⟨m, hm⟩ : ∃ m, m = (keptG En.id xs).length := ⟨_, rfl⟩
  have HN := hid hm
  have HM := hid (show m ≤ 20000 by rw [hm]; exact Nat.le_trans (kept_lenG xs) hlx)
  obtain ⟨b, o, cap, a, rfl, ha, hc, hb⟩ := OwnG.slG kE HJ.out.es
  rw [show (keptE xs).length = m by rw [hm]; unfold keptE; rw [List.length_map]] at ha hb HJ h
  have HCC := hid hc
  clear h hA hm hc
  go_enter Tryz.func50, Tryz.ntmps50
  go_wp2_with fail
  generalize w.alloc (.cells #[.int .i64 c.i, .int .i64 c.k, .int .i64 c.s, .int .i64 c.t, .int .i64 c.d, .int .i64 c.p, .int .i64 c.q] 40) = W0 at HW HCB HJ HA HCC hb HPS ⊢
  have HQ0 := hid (show w.heap.size < W0.heap.size from (Array.getElem?_eq_some_iff.1 HCB.out).1)
  go_loopw [11, 12] (fun u i wr => ∃ (k : Nat), k ≤ m ∧ i = .int .i64 k ∧ OwnI wr W0.heap.size u (idsL ((selK xs c (absB t ps d) k).map fun y => y.e.c)) ∧ Below W0.heap.size W0 wr) (fun _ i _ => m - (RowKit.intOf i).toNat)
  case atStart => exact ⟨0, Nat.zero_le _, rfl, OwnI.nil _ _, Below.refl _ _⟩
  case round =>
    obtain ⟨k, hk, rfl, hown, hB⟩ := hrel
    have HO := hid hown
    have HB := hid hB
    have k2 := (HJ.out.on HB.out).cells.2.2.1
    obtain ⟨g0, cap0, n0, rfl, -⟩ := hown.asSlice'
    clear hown hB
    have hmb : m ≤ 20000 := HM.out
    by_cases hlt : k < m
    · obtain rfl := ha (by omega)
      obtain ⟨y, hy⟩ : ∃ y, (keptG En.id xs)[k]? = some y := ⟨(keptG En.id xs)[k]'(by rw [← HN.out]; exact hlt), List.getElem?_eq_getElem (by rw [← HN.out]; exact hlt)⟩
      have hbw := hb (by omega)
      have hye : (keptE xs)[k]? = some y.e := by unfold keptE; rw [List.getElem?_map, hy]; rfl
      have HC : Hid (wr.rangeAt b (o + k * 19) y.e.list) := hid ((HCC.out.on HB.out fun _ => hbw) k y.e hye)
      have hin := kept_in hy
      have HY := hid hy
      have hsy := hs y hin
      have HYA := hid (fun W (hW : Below W0.heap.size W0 W) => (HA.out y hin).on hW)
      have HCK := hid (fun (W : World) (hW : Below W0.heap.size W0 W) => heapB HCB.out hW HQ0.out)
      have HLT := hid hlt
      have HLE : Hid ((idsL ((selK xs c (absB t ps d) k).map fun y => y.e.c)).length ≤ 20000) := hid (by have := selK_len xs c (absB t ps d) k; unfold idsL; simp only [List.length_map]; omega)
      clear hy hye hin
      obtain ⟨tb, htb⟩ : ∃ tb, tb = touchB y.e.c c := ⟨_, rfl⟩
      have HTC := hid (fun W => rTouches y.e c W)
      rw [← htb] at HTC
      have HTB := hid htb
      clear htb
      obtain ⟨pb, hpb⟩ : ∃ pb, pb = aheadE y.e t := ⟨_, rfl⟩
      have HPC := hid (fun W => rAheadE y.e t W)
      rw [← hpb] at HPC
      have HPB := hid hpb
      clear hpb
      obtain ⟨dn, hdn⟩ : ∃ dn, dn = y.e.dn := ⟨_, rfl⟩
      have HDN := hid hdn
      clear hdn
      rcases tb with _ | _
      · go_wp2_with (first
          | ((with_reducible refine loadEl (T := 74) (x := ?lx1) (b := ?lb1) (o := ?lo1) uR iR y.e ?lg1 ?lp1 ?lxx1 ?lc1 ?_); (case lg1 => rfl); (case lp1 => rfl); (case lxx1 => rfl); (case lc1 => exact HC.out))
          | ((with_reducible refine storeR (x := ?sx1) (y := ?sy1) (b := wr.heap.size) (T := 74) y.e ?sg1 ?so1 ?sxx1 ?syy1 ?sc1 ?_); (case sg1 => rfl); (case so1 => rfl); (case sxx1 => rfl); (case syy1 => rfl); (case sc1 => exact ⟨_, heap_alloc_new wr zeroEr, rfl⟩); intro W4 hO4 hU4
             have hb4 : Below wr.heap.size wr W4 := ((Below.refl _ wr).alloc (Nat.le_refl _) zeroEr).trans (hU4.below _ (Nat.le_refl _))
             have HX4 := hid hO4
             have HO4 := hid (ownI_below HO.out hb4)
             have HB4 := hid (HB.out.trans (hb4.mono HB.out.size))
             have hcc := HCK.out W4 HB4.out
             have c0 : W4.cell? ⟨w.heap.size, 0, none⟩ = some (.int .i64 c.i) := (cellAt' hcc 0).trans rfl; have c1 : W4.cell? ⟨w.heap.size, 1, none⟩ = some (.int .i64 c.k) := (cellAt' hcc 1).trans rfl; have c2 : W4.cell? ⟨w.heap.size, 2, none⟩ = some (.int .i64 c.s) := (cellAt' hcc 2).trans rfl; have c3 : W4.cell? ⟨w.heap.size, 3, none⟩ = some (.int .i64 c.t) := (cellAt' hcc 3).trans rfl; have c4 : W4.cell? ⟨w.heap.size, 4, none⟩ = some (.int .i64 c.d) := (cellAt' hcc 4).trans rfl; have c5 : W4.cell? ⟨w.heap.size, 5, none⟩ = some (.int .i64 c.p) := (cellAt' hcc 5).trans rfl; have c6 : W4.cell? ⟨w.heap.size, 6, none⟩ = some (.int .i64 c.q) := (cellAt' hcc 6).trans rfl
             clear hU4 hb4 hcc hO4)
          | ((with_reducible refine loadR (x := ?cx2) (b := wr.heap.size) (T := 74) y.e ?cg2 ?co2 ?cxx2 ?cc2 ?_); (case cg2 => rfl); (case co2 => rfl); (case cxx2 => rfl); (case cc2 => exact HX4.out))
          | (go_at_call 83; refine (HTC.out W4).mono ?_; rintro q W5 ⟨rfl, hb5⟩
             have HX5 : Hid (Ob W5 wr.heap.size 74 y.e) := hid (heapB HX4.out hb5 (Array.getElem?_eq_some_iff.1 HX4.out).1)
             have HO5 := hid (ownI_below HO4.out hb5)
             have HB5 := hid (HB4.out.trans (hb5.mono HB4.out.size))
             clear hb5)
          | ((with_reducible refine loadR (x := ?cx3) (b := wr.heap.size) (T := 74) y.e ?cg3 ?co3 ?cxx3 ?cc3 ?_); (case cg3 => rfl); (case co3 => rfl); (case cxx3 => rfl); (case cc3 => exact HX5.out))
          | (go_at_call 84; refine (HPC.out W5).mono ?_; rintro q W6 ⟨rfl, hb6⟩
             have HX6 : Hid (Ob W6 wr.heap.size 74 y.e) := hid (heapB HX5.out hb6 (Array.getElem?_eq_some_iff.1 HX5.out).1)
             have HO6 := hid (ownI_below HO5.out hb6)
             have HB6 := hid (HB5.out.trans (hb6.mono HB5.out.size))
             have d16 : W6.cell? ⟨wr.heap.size, 16, none⟩ = some (.bool dn) := by rw [HDN.out]; exact HX6.out.cell (j := 16) rfl
             have f0 := HX6.out.cell (j := 0) (v := .int .i64 y.e.c.i) rfl
             clear hb6)
          | fail)
        go_roundw
        case rel => exact ⟨k + 1, by have := HLT.out; omega, by go_num, by rw [selK_next HY.out, if_neg (by show ¬ (touchB y.e.c c && ((y.e.dn == d) && (aheadE y.e t && !foundB ps y.id))) = true; rw [← HTB.out]; simp)]; exact HO6.out, HB6.out⟩
        case measure => have := HLT.out; simp [RowKit.intOf]; omega
      · rcases pb with _ | _
        · go_wp2_with (first
            | ((with_reducible refine loadEl (T := 74) (x := ?lx1) (b := ?lb1) (o := ?lo1) uR iR y.e ?lg1 ?lp1 ?lxx1 ?lc1 ?_); (case lg1 => rfl); (case lp1 => rfl); (case lxx1 => rfl); (case lc1 => exact HC.out))
            | ((with_reducible refine storeR (x := ?sx1) (y := ?sy1) (b := wr.heap.size) (T := 74) y.e ?sg1 ?so1 ?sxx1 ?syy1 ?sc1 ?_); (case sg1 => rfl); (case so1 => rfl); (case sxx1 => rfl); (case syy1 => rfl); (case sc1 => exact ⟨_, heap_alloc_new wr zeroEr, rfl⟩); intro W4 hO4 hU4
               have hb4 : Below wr.heap.size wr W4 := ((Below.refl _ wr).alloc (Nat.le_refl _) zeroEr).trans (hU4.below _ (Nat.le_refl _))
               have HX4 := hid hO4
               have HO4 := hid (ownI_below HO.out hb4)
               have HB4 := hid (HB.out.trans (hb4.mono HB.out.size))
               have hcc := HCK.out W4 HB4.out
               have c0 : W4.cell? ⟨w.heap.size, 0, none⟩ = some (.int .i64 c.i) := (cellAt' hcc 0).trans rfl; have c1 : W4.cell? ⟨w.heap.size, 1, none⟩ = some (.int .i64 c.k) := (cellAt' hcc 1).trans rfl; have c2 : W4.cell? ⟨w.heap.size, 2, none⟩ = some (.int .i64 c.s) := (cellAt' hcc 2).trans rfl; have c3 : W4.cell? ⟨w.heap.size, 3, none⟩ = some (.int .i64 c.t) := (cellAt' hcc 3).trans rfl; have c4 : W4.cell? ⟨w.heap.size, 4, none⟩ = some (.int .i64 c.d) := (cellAt' hcc 4).trans rfl; have c5 : W4.cell? ⟨w.heap.size, 5, none⟩ = some (.int .i64 c.p) := (cellAt' hcc 5).trans rfl; have c6 : W4.cell? ⟨w.heap.size, 6, none⟩ = some (.int .i64 c.q) := (cellAt' hcc 6).trans rfl
               clear hU4 hb4 hcc hO4)
            | ((with_reducible refine loadR (x := ?cx2) (b := wr.heap.size) (T := 74) y.e ?cg2 ?co2 ?cxx2 ?cc2 ?_); (case cg2 => rfl); (case co2 => rfl); (case cxx2 => rfl); (case cc2 => exact HX4.out))
            | (go_at_call 83; refine (HTC.out W4).mono ?_; rintro q W5 ⟨rfl, hb5⟩
               have HX5 : Hid (Ob W5 wr.heap.size 74 y.e) := hid (heapB HX4.out hb5 (Array.getElem?_eq_some_iff.1 HX4.out).1)
               have HO5 := hid (ownI_below HO4.out hb5)
               have HB5 := hid (HB4.out.trans (hb5.mono HB4.out.size))
               clear hb5)
            | ((with_reducible refine loadR (x := ?cx3) (b := wr.heap.size) (T := 74) y.e ?cg3 ?co3 ?cxx3 ?cc3 ?_); (case cg3 => rfl); (case co3 => rfl); (case cxx3 => rfl); (case cc3 => exact HX5.out))
            | (go_at_call 84; refine (HPC.out W5).mono ?_; rintro q W6 ⟨rfl, hb6⟩
               have HX6 : Hid (Ob W6 wr.heap.size 74 y.e) := hid (heapB HX5.out hb6 (Array.getElem?_eq_some_iff.1 HX5.out).1)
               have HO6 := hid (ownI_below HO5.out hb6)
               have HB6 := hid (HB5.out.trans (hb6.mono HB5.out.size))
               have d16 : W6.cell? ⟨wr.heap.size, 16, none⟩ = some (.bool dn) := by rw [HDN.out]; exact HX6.out.cell (j := 16) rfl
               have f0 := HX6.out.cell (j := 0) (v := .int .i64 y.e.c.i) rfl
               clear hb6)
            | fail)
          go_roundw
          case rel => exact ⟨k + 1, by have := HLT.out; omega, by go_num, by rw [selK_next HY.out, if_neg (by show ¬ (touchB y.e.c c && ((y.e.dn == d) && (aheadE y.e t && !foundB ps y.id))) = true; rw [← HPB.out]; simp)]; exact HO6.out, HB6.out⟩
          case measure => have := HLT.out; simp [RowKit.intOf]; omega
        · obtain ⟨q, hq⟩ : ∃ q, q = (dn == d) := ⟨_, rfl⟩
          have HEQ : Hid ((y.e.dn == d) = q) := hid (by rw [hq, HDN.out])
          rcases q with _ | _
          · have heq : (dn == d) = false := hq.symm
            clear hq
            go_wp2_with (first
              | ((with_reducible refine loadEl (T := 74) (x := ?lx1) (b := ?lb1) (o := ?lo1) uR iR y.e ?lg1 ?lp1 ?lxx1 ?lc1 ?_); (case lg1 => rfl); (case lp1 => rfl); (case lxx1 => rfl); (case lc1 => exact HC.out))
              | ((with_reducible refine storeR (x := ?sx1) (y := ?sy1) (b := wr.heap.size) (T := 74) y.e ?sg1 ?so1 ?sxx1 ?syy1 ?sc1 ?_); (case sg1 => rfl); (case so1 => rfl); (case sxx1 => rfl); (case syy1 => rfl); (case sc1 => exact ⟨_, heap_alloc_new wr zeroEr, rfl⟩); intro W4 hO4 hU4
                 have hb4 : Below wr.heap.size wr W4 := ((Below.refl _ wr).alloc (Nat.le_refl _) zeroEr).trans (hU4.below _ (Nat.le_refl _))
                 have HX4 := hid hO4
                 have HO4 := hid (ownI_below HO.out hb4)
                 have HB4 := hid (HB.out.trans (hb4.mono HB.out.size))
                 have hcc := HCK.out W4 HB4.out
                 have c0 : W4.cell? ⟨w.heap.size, 0, none⟩ = some (.int .i64 c.i) := (cellAt' hcc 0).trans rfl; have c1 : W4.cell? ⟨w.heap.size, 1, none⟩ = some (.int .i64 c.k) := (cellAt' hcc 1).trans rfl; have c2 : W4.cell? ⟨w.heap.size, 2, none⟩ = some (.int .i64 c.s) := (cellAt' hcc 2).trans rfl; have c3 : W4.cell? ⟨w.heap.size, 3, none⟩ = some (.int .i64 c.t) := (cellAt' hcc 3).trans rfl; have c4 : W4.cell? ⟨w.heap.size, 4, none⟩ = some (.int .i64 c.d) := (cellAt' hcc 4).trans rfl; have c5 : W4.cell? ⟨w.heap.size, 5, none⟩ = some (.int .i64 c.p) := (cellAt' hcc 5).trans rfl; have c6 : W4.cell? ⟨w.heap.size, 6, none⟩ = some (.int .i64 c.q) := (cellAt' hcc 6).trans rfl
                 clear hU4 hb4 hcc hO4)
              | ((with_reducible refine loadR (x := ?cx2) (b := wr.heap.size) (T := 74) y.e ?cg2 ?co2 ?cxx2 ?cc2 ?_); (case cg2 => rfl); (case co2 => rfl); (case cxx2 => rfl); (case cc2 => exact HX4.out))
              | (go_at_call 83; refine (HTC.out W4).mono ?_; rintro q W5 ⟨rfl, hb5⟩
                 have HX5 : Hid (Ob W5 wr.heap.size 74 y.e) := hid (heapB HX4.out hb5 (Array.getElem?_eq_some_iff.1 HX4.out).1)
                 have HO5 := hid (ownI_below HO4.out hb5)
                 have HB5 := hid (HB4.out.trans (hb5.mono HB4.out.size))
                 clear hb5)
              | ((with_reducible refine loadR (x := ?cx3) (b := wr.heap.size) (T := 74) y.e ?cg3 ?co3 ?cxx3 ?cc3 ?_); (case cg3 => rfl); (case co3 => rfl); (case cxx3 => rfl); (case cc3 => exact HX5.out))
              | (go_at_call 84; refine (HPC.out W5).mono ?_; rintro q W6 ⟨rfl, hb6⟩
                 have HX6 : Hid (Ob W6 wr.heap.size 74 y.e) := hid (heapB HX5.out hb6 (Array.getElem?_eq_some_iff.1 HX5.out).1)
                 have HO6 := hid (ownI_below HO5.out hb6)
                 have HB6 := hid (HB5.out.trans (hb6.mono HB5.out.size))
                 have d16 : W6.cell? ⟨wr.heap.size, 16, none⟩ = some (.bool dn) := by rw [HDN.out]; exact HX6.out.cell (j := 16) rfl
                 have f0 := HX6.out.cell (j := 0) (v := .int .i64 y.e.c.i) rfl
                 clear hb6)
              | fail)
            go_roundw
            case rel => exact ⟨k + 1, by have := HLT.out; omega, by go_num, by rw [selK_next HY.out, if_neg (by show ¬ (touchB y.e.c c && ((y.e.dn == d) && (aheadE y.e t && !foundB ps y.id))) = true; rw [HEQ.out]; simp)]; exact HO6.out, HB6.out⟩
            case measure => have := HLT.out; simp [RowKit.intOf]; omega
          · have heq : (dn == d) = true := hq.symm
            clear hq
            obtain ⟨z, hz⟩ : ∃ z, z = placeV ps y.e.c.i := ⟨_, rfl⟩
            have HZ := hid hz
            clear hz
            by_cases hz0 : z < 0
            · have HFB := hid (show foundB ps y.id = false from (found_neg ps y.e.c.i).1 (by rw [← HZ.out]; exact hz0))
              go_wp2_with (first
                | ((with_reducible refine loadEl (T := 74) (x := ?lx1) (b := ?lb1) (o := ?lo1) uR iR y.e ?lg1 ?lp1 ?lxx1 ?lc1 ?_); (case lg1 => rfl); (case lp1 => rfl); (case lxx1 => rfl); (case lc1 => exact HC.out))
                | ((with_reducible refine storeR (x := ?sx1) (y := ?sy1) (b := wr.heap.size) (T := 74) y.e ?sg1 ?so1 ?sxx1 ?syy1 ?sc1 ?_); (case sg1 => rfl); (case so1 => rfl); (case sxx1 => rfl); (case syy1 => rfl); (case sc1 => exact ⟨_, heap_alloc_new wr zeroEr, rfl⟩); intro W4 hO4 hU4
                   have hb4 : Below wr.heap.size wr W4 := ((Below.refl _ wr).alloc (Nat.le_refl _) zeroEr).trans (hU4.below _ (Nat.le_refl _))
                   have HX4 := hid hO4
                   have HO4 := hid (ownI_below HO.out hb4)
                   have HB4 := hid (HB.out.trans (hb4.mono HB.out.size))
                   have hcc := HCK.out W4 HB4.out
                   have c0 : W4.cell? ⟨w.heap.size, 0, none⟩ = some (.int .i64 c.i) := (cellAt' hcc 0).trans rfl; have c1 : W4.cell? ⟨w.heap.size, 1, none⟩ = some (.int .i64 c.k) := (cellAt' hcc 1).trans rfl; have c2 : W4.cell? ⟨w.heap.size, 2, none⟩ = some (.int .i64 c.s) := (cellAt' hcc 2).trans rfl; have c3 : W4.cell? ⟨w.heap.size, 3, none⟩ = some (.int .i64 c.t) := (cellAt' hcc 3).trans rfl; have c4 : W4.cell? ⟨w.heap.size, 4, none⟩ = some (.int .i64 c.d) := (cellAt' hcc 4).trans rfl; have c5 : W4.cell? ⟨w.heap.size, 5, none⟩ = some (.int .i64 c.p) := (cellAt' hcc 5).trans rfl; have c6 : W4.cell? ⟨w.heap.size, 6, none⟩ = some (.int .i64 c.q) := (cellAt' hcc 6).trans rfl
                   clear hU4 hb4 hcc hO4)
                | ((with_reducible refine loadR (x := ?cx2) (b := wr.heap.size) (T := 74) y.e ?cg2 ?co2 ?cxx2 ?cc2 ?_); (case cg2 => rfl); (case co2 => rfl); (case cxx2 => rfl); (case cc2 => exact HX4.out))
                | (go_at_call 83; refine (HTC.out W4).mono ?_; rintro q W5 ⟨rfl, hb5⟩
                   have HX5 : Hid (Ob W5 wr.heap.size 74 y.e) := hid (heapB HX4.out hb5 (Array.getElem?_eq_some_iff.1 HX4.out).1)
                   have HO5 := hid (ownI_below HO4.out hb5)
                   have HB5 := hid (HB4.out.trans (hb5.mono HB4.out.size))
                   clear hb5)
                | ((with_reducible refine loadR (x := ?cx3) (b := wr.heap.size) (T := 74) y.e ?cg3 ?co3 ?cxx3 ?cc3 ?_); (case cg3 => rfl); (case co3 => rfl); (case cxx3 => rfl); (case cc3 => exact HX5.out))
                | (go_at_call 84; refine (HPC.out W5).mono ?_; rintro q W6 ⟨rfl, hb6⟩
                   have HX6 : Hid (Ob W6 wr.heap.size 74 y.e) := hid (heapB HX5.out hb6 (Array.getElem?_eq_some_iff.1 HX5.out).1)
                   have HO6 := hid (ownI_below HO5.out hb6)
                   have HB6 := hid (HB5.out.trans (hb6.mono HB5.out.size))
                   have d16 : W6.cell? ⟨wr.heap.size, 16, none⟩ = some (.bool dn) := by rw [HDN.out]; exact HX6.out.cell (j := 16) rfl
                   have f0 := HX6.out.cell (j := 0) (v := .int .i64 y.e.c.i) rfl
                   have hF := rFind (HPS.out.on HB6.out) (by omega) y.e.c.i
                   rw [← HZ.out] at hF
                   clear hb6)
                | (go_at_call 86; refine hF.mono ?_; rintro q w' ⟨rfl, rfl⟩)
                | (at_builtin; (with_reducible refine wpList_apI (s := ?as0) (x := ?ax0) (l := (idsL ((selK xs c (absB t ps d) k).map fun y => y.e.c))) (B := W0.heap.size) (q := W6.heap.size) y.e.c.i ?ag0 ?ao0 ?av0 ?aw0 (HO6.out.alloc _) (cellNewI _ _) (by have := HLE.out; omega) (by have := HB6.out.size; (try rw [World.size_alloc]); omega) ?_); (case ag0 => rfl); (case ao0 => rfl); (case av0 => rfl); (case aw0 => rfl); intro v9 W9 hO9 hg9; have HB9 := hid ((HB6.out.alloc HB6.out.size _).grown hg9 (by have := HB6.out.size; (try rw [World.size_alloc]); omega) (fun j hj => (HO6.out.lt j hj).1)); have HN9 := hid hO9; obtain ⟨g9, cap9, n9, rfl, -⟩ := hO9.asSlice'; clear hO9 hg9)
                | fail)
              go_roundw
              case rel => exact ⟨k + 1, by have := HLT.out; omega, by go_num, by rw [selK_next HY.out, if_pos (by show (touchB y.e.c c && ((y.e.dn == d) && (aheadE y.e t && !foundB ps y.id))) = true; rw [← HTB.out, HEQ.out, ← HPB.out, HFB.out]; rfl), List.map_append]; unfold idsL; rw [List.map_append]; exact HN9.out, HB9.out⟩
              case measure => have := HLT.out; simp [RowKit.intOf]; omega
            · have HFB := hid (show foundB ps y.id = true by rcases hf : foundB ps y.id with _ | _; exact absurd (by rw [HZ.out]; exact (found_neg ps y.e.c.i).2 hf) hz0; rfl)
              go_wp2_with (first
                | ((with_reducible refine loadEl (T := 74) (x := ?lx1) (b := ?lb1) (o := ?lo1) uR iR y.e ?lg1 ?lp1 ?lxx1 ?lc1 ?_); (case lg1 => rfl); (case lp1 => rfl); (case lxx1 => rfl); (case lc1 => exact HC.out))
                | ((with_reducible refine storeR (x := ?sx1) (y := ?sy1) (b := wr.heap.size) (T := 74) y.e ?sg1 ?so1 ?sxx1 ?syy1 ?sc1 ?_); (case sg1 => rfl); (case so1 => rfl); (case sxx1 => rfl); (case syy1 => rfl); (case sc1 => exact ⟨_, heap_alloc_new wr zeroEr, rfl⟩); intro W4 hO4 hU4
                   have hb4 : Below wr.heap.size wr W4 := ((Below.refl _ wr).alloc (Nat.le_refl _) zeroEr).trans (hU4.below _ (Nat.le_refl _))
                   have HX4 := hid hO4
                   have HO4 := hid (ownI_below HO.out hb4)
                   have HB4 := hid (HB.out.trans (hb4.mono HB.out.size))
                   have hcc := HCK.out W4 HB4.out
                   have c0 : W4.cell? ⟨w.heap.size, 0, none⟩ = some (.int .i64 c.i) := (cellAt' hcc 0).trans rfl; have c1 : W4.cell? ⟨w.heap.size, 1, none⟩ = some (.int .i64 c.k) := (cellAt' hcc 1).trans rfl; have c2 : W4.cell? ⟨w.heap.size, 2, none⟩ = some (.int .i64 c.s) := (cellAt' hcc 2).trans rfl; have c3 : W4.cell? ⟨w.heap.size, 3, none⟩ = some (.int .i64 c.t) := (cellAt' hcc 3).trans rfl; have c4 : W4.cell? ⟨w.heap.size, 4, none⟩ = some (.int .i64 c.d) := (cellAt' hcc 4).trans rfl; have c5 : W4.cell? ⟨w.heap.size, 5, none⟩ = some (.int .i64 c.p) := (cellAt' hcc 5).trans rfl; have c6 : W4.cell? ⟨w.heap.size, 6, none⟩ = some (.int .i64 c.q) := (cellAt' hcc 6).trans rfl
                   clear hU4 hb4 hcc hO4)
                | ((with_reducible refine loadR (x := ?cx2) (b := wr.heap.size) (T := 74) y.e ?cg2 ?co2 ?cxx2 ?cc2 ?_); (case cg2 => rfl); (case co2 => rfl); (case cxx2 => rfl); (case cc2 => exact HX4.out))
                | (go_at_call 83; refine (HTC.out W4).mono ?_; rintro q W5 ⟨rfl, hb5⟩
                   have HX5 : Hid (Ob W5 wr.heap.size 74 y.e) := hid (heapB HX4.out hb5 (Array.getElem?_eq_some_iff.1 HX4.out).1)
                   have HO5 := hid (ownI_below HO4.out hb5)
                   have HB5 := hid (HB4.out.trans (hb5.mono HB4.out.size))
                   clear hb5)
                | ((with_reducible refine loadR (x := ?cx3) (b := wr.heap.size) (T := 74) y.e ?cg3 ?co3 ?cxx3 ?cc3 ?_); (case cg3 => rfl); (case co3 => rfl); (case cxx3 => rfl); (case cc3 => exact HX5.out))
                | (go_at_call 84; refine (HPC.out W5).mono ?_; rintro q W6 ⟨rfl, hb6⟩
                   have HX6 : Hid (Ob W6 wr.heap.size 74 y.e) := hid (heapB HX5.out hb6 (Array.getElem?_eq_some_iff.1 HX5.out).1)
                   have HO6 := hid (ownI_below HO5.out hb6)
                   have HB6 := hid (HB5.out.trans (hb6.mono HB5.out.size))
                   have d16 : W6.cell? ⟨wr.heap.size, 16, none⟩ = some (.bool dn) := by rw [HDN.out]; exact HX6.out.cell (j := 16) rfl
                   have f0 := HX6.out.cell (j := 0) (v := .int .i64 y.e.c.i) rfl
                   have hF := rFind (HPS.out.on HB6.out) (by omega) y.e.c.i
                   rw [← HZ.out] at hF
                   clear hb6)
                | (go_at_call 86; refine hF.mono ?_; rintro q w' ⟨rfl, rfl⟩)
                | fail)
              go_roundw
              case rel => exact ⟨k + 1, by have := HLT.out; omega, by go_num, by rw [selK_next HY.out, if_neg (by show ¬ (touchB y.e.c c && ((y.e.dn == d) && (aheadE y.e t && !foundB ps y.id))) = true; rw [HFB.out]; simp)]; exact HO6.out, HB6.out⟩
              case measure => have := HLT.out; simp [RowKit.intOf]; omega
    · have hkm : k = m := by omega
      subst hkm
      have HF : Hid (OwnI wr W0.heap.size (.slice g0 n0 cap0) (idsL (((keptG En.id xs).filter (sel c (absB t ps d))).map fun y => y.e.c))) := hid (by have := HO.out; unfold selK at this; rw [HN.out, List.take_length] at this; exact this)
      go_wp2_with fail
      go_ret
      exact ⟨_, rfl, own_monoB HF.out (by have := HQ0.out; omega), HW.out.trans (HB.out.mono (by have := HQ0.out; omega))⟩
end Go.Proofs.YtogoibigabpkhaaGreat
