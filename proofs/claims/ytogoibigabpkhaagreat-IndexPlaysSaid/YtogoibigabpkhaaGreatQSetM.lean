import Derived.Test.YtogoibigabpkhaaGreatG18
import Derived.Test.YtogoibigabpkhaaGreatG11
import Derived.Deep.QuietTactic
import Derived.BigQuiet
import Derived.Outline
/- The document's set. -/
namespace Go.Proofs.YtogoibigabpkhaaGreat
set_option linter.unusedVariables false
open Go.RowKit
open Go.Lib (hid)

set_option maxHeartbeats 8000000 in
set_option maxRecDepth 100000 in
theorem rSet {w : World} {p : Nat} {nd c : Int} {v u : Value} {es : List Ev} {ids : List Int} {x : Ev} (h : Rx w p nd c v u es ids) (hl : es.length ≤ 20000) : Calls Tryz.prog 32 #[ptr p, .agg x.arr] w fun e w' => e = .returned (.tuple #[]) ∧ (∃ v', Rx w' p nd c v' u (placeG idE x es) ids) ∧ Tch (fun k => k = p) w w' := by
  have HRX0 := hid h
  have hp := h.lt
  obtain ⟨-, -, hcell, -⟩ := h.cells
  obtain ⟨b, o, cap, a, rfl, ha, hc, hb⟩ := OwnG.slG kE h.es
  have HX : Hid (Ob (w.alloc (.cells x.arr 74)) w.heap.size 74 x) := hid (heap_alloc_new w _)
  have HW : Hid (Below w.heap.size w (w.alloc (.cells x.arr 74))) := hid ((Below.refl _ w).alloc (Nat.le_refl _) _)
  have HS : Hid ((w.alloc (.cells x.arr 74)).heap.size = w.heap.size + 1) := hid (by simp)
  have HCL := hid hcell
  have HPL := hid hp
  clear h hcell hp
  go_enter Tryz.func32, Tryz.ntmps32
  go_wp2_with fail
  obtain ⟨W0, hW0⟩ : ∃ W0, W0 = w.alloc (.cells x.arr 74) := ⟨_, rfl⟩
  rw [← hW0] at HX HW HS ⊢
  clear hW0
  go_loopw [4, 5, 6] (fun u d i wr => ∃ (k : Nat), k ≤ es.length ∧ i = .int .i64 k ∧ d = .bool (stE x (es.take k)).2 ∧ OwnR wr W0.heap.size u (stE x (es.take k)).1 ∧ Below W0.heap.size W0 wr) (fun _ _ i _ => es.length - (RowKit.intOf i).toNat)
  case atStart => exact ⟨0, Nat.zero_le _, rfl, rfl, OwnG.nil _ _ _ _ _, Below.refl _ _⟩
  case round =>
    obtain ⟨k, hk, rfl, rfl, hown, hB⟩ := hrel
    have HN := hid hown
    have HB := hid hB
    have HBB := hid hB
    have HLN := hid (stE_len x (es.take k))
    have HKX : Hid (∀ W, Below W0.heap.size W0 W → Ob W w.heap.size 74 x) := hid fun W hb => heapB HX.out hb (by have := HS.out; omega)
    have HKL : Hid (∀ W, Below W0.heap.size W0 W → W.cell? ⟨p, 2, none⟩ = some (.slice a es.length cap)) := hid fun W hb => ((HW.out.trans (hb.mono (by have := HS.out; omega))).cell (p := ⟨p, 2, none⟩) HPL.out).trans HCL.out
    have kx := (HKX.out _ HB.out).cell (j := 0) (v := .int .i64 x.c.i) rfl
    have kL := HKL.out _ HB.out
    obtain ⟨g0, cap0, n0, rfl, -⟩ := hown.asSlice
    clear hB hown
    by_cases hlt : k < es.length
    · obtain rfl := ha (by omega)
      obtain ⟨y, he⟩ : ∃ y, es[k]? = some y := ⟨es[k], List.getElem?_eq_getElem hlt⟩
      have hbw := hb (by omega)
      have HKY : Hid (∀ W, Below W0.heap.size W0 W → W.rangeAt b (o + k * 19) y.list) := hid fun W hB => ((hc.on HW.out fun _ => hbw).on hB fun _ => by have := HS.out; omega) k y he
      have ky : wr.cell? ⟨b, o + k * 19, none⟩ = some (.int .i64 y.c.i) := HKY.out _ HB.out 0 _ rfl
      have HST := hid (show stE x (es.take (k + 1)) = putStep idE x (stE x (es.take k)) y by rw [takeN_snoc he, stE_snoc])
      have HTL : Hid ((es.take k).length = k) := hid (by rw [List.length_take]; omega)
      clear hc he
      rcases hd : (stE x (es.take k)).2 with _ | _
      · have HD := hid hd
        have HLE : Hid ((stE x (es.take k)).1.length ≤ 20000) := hid (by have := HLN.out.2 HD.out; have := HTL.out; omega)
        clear hd
        by_cases h1 : x.c.i ≤ y.c.i
        · by_cases h2 : y.c.i = x.c.i
          · skip
            go_wp2_with fail
            go_quiet (fail)
            obtain ⟨W1, hW1⟩ : ∃ W, W = wr.drewN nq := ⟨_, rfl⟩
            rw [← hW1]
            have HB1 : Hid (Below W0.heap.size W0 W1) := hid (by rw [hW1]; exact belowDrewN HB.out _)
            have HN1 : Hid (OwnR W1 W0.heap.size _ (stE x (es.take k)).1) := hid (by rw [hW1]; exact HN.out)
            clear hW1
            have kx := (HKX.out _ HB1.out).cell (j := 0) (v := .int .i64 x.c.i) rfl
            have ky : W1.cell? ⟨b, o + k * 19, none⟩ = some (Value.int .i64 y.c.i) := HKY.out _ HB1.out 0 _ rfl
            have kL := HKL.out _ HB1.out
            go_wp2_with (first
              | ((with_reducible refine loadR (x := ?cx1) (b := ?cb1) (T := 74) x ?cg1 ?co1 ?cxx1 ?cc1 ?_); (case cg1 => rfl); (case co1 => rfl); (case cxx1 => rfl); (case cc1 => exact (HKX.out _ HB1.out)))
              | ((with_reducible refine wpList_bsR (x := ?bx2) x ?bg2 ?bo2 ?bv2 ?_); (case bg2 => rfl); (case bo2 => rfl); (case bv2 => rfl); intro V2 hN2 hb2; have HQ2 := hid hN2; have HC2 := hid (HB1.out.trans (hb2.mono HB1.out.size)); have HO2 := hid (OwnG.on HN1.out hb2); clear hN2 hb2)
              | ((with_reducible refine wpList_apR (s := ?as3) (x := ?ax3) (es := (stE x (es.take k)).1) (B := W0.heap.size) (q := W1.heap.size) x ?ag3 ?ao3 ?av3 ?aw3 HO2.out HQ2.out (by have := HLE.out; omega) HC2.out.size ?_); (case ag3 => rfl); (case ao3 => rfl); (case av3 => rfl); (case aw3 => rfl); intro v2 W2 hO2 hg2; have HB2 := hid (HC2.out.grown hg2 HC2.out.size (fun j hj => (HO2.out.lt j hj).1)); have HN2 := hid hO2; obtain ⟨g2, cap2, n2, rfl, -⟩ := hO2.asSlice; clear hO2 hg2; have kx := (HKX.out _ HB2.out).cell (j := 0) (v := .int .i64 x.c.i) rfl; have ky : W2.cell? ⟨b, o + k * 19, none⟩ = some (Value.int .i64 y.c.i) := HKY.out _ HB2.out 0 _ rfl; have kL := HKL.out _ HB2.out)
              | fail)
            go_quiet (fail)
            obtain ⟨W3, hW3⟩ : ∃ W, W = W2.drewN nq := ⟨_, rfl⟩
            rw [← hW3]
            have HB3 : Hid (Below W0.heap.size W0 W3) := hid (by rw [hW3]; exact belowDrewN HB2.out _)
            have HN3 : Hid (OwnR W3 W0.heap.size _ ((stE x (es.take k)).1 ++ [x])) := hid (by rw [hW3]; exact HN2.out)
            clear hW3
            have kx := (HKX.out _ HB3.out).cell (j := 0) (v := .int .i64 x.c.i) rfl
            have ky : W3.cell? ⟨b, o + k * 19, none⟩ = some (Value.int .i64 y.c.i) := HKY.out _ HB3.out 0 _ rfl
            have kL := HKL.out _ HB3.out
            go_wp2_with fail
            go_roundw
            case rel => exact ⟨k + 1, by omega, by congr 1, by rw [HST.out, putStep_a HD.out (by omega) h2], by rw [HST.out, putStep_a HD.out (by omega) h2]; exact HN3.out, HB3.out⟩
            case measure => simp [RowKit.intOf]; omega
          · skip
            go_wp2_with fail
            go_quiet (fail)
            obtain ⟨W1, hW1⟩ : ∃ W, W = wr.drewN nq := ⟨_, rfl⟩
            rw [← hW1]
            have HB1 : Hid (Below W0.heap.size W0 W1) := hid (by rw [hW1]; exact belowDrewN HB.out _)
            have HN1 : Hid (OwnR W1 W0.heap.size _ (stE x (es.take k)).1) := hid (by rw [hW1]; exact HN.out)
            clear hW1
            have kx := (HKX.out _ HB1.out).cell (j := 0) (v := .int .i64 x.c.i) rfl
            have ky : W1.cell? ⟨b, o + k * 19, none⟩ = some (Value.int .i64 y.c.i) := HKY.out _ HB1.out 0 _ rfl
            have kL := HKL.out _ HB1.out
            go_wp2_with (first
              | ((with_reducible refine loadR (x := ?cx4) (b := ?cb4) (T := 74) x ?cg4 ?co4 ?cxx4 ?cc4 ?_); (case cg4 => rfl); (case co4 => rfl); (case cxx4 => rfl); (case cc4 => exact (HKX.out _ HB1.out)))
              | ((with_reducible refine wpList_bsR (x := ?bx5) x ?bg5 ?bo5 ?bv5 ?_); (case bg5 => rfl); (case bo5 => rfl); (case bv5 => rfl); intro V2 hN2 hb2; have HQ2 := hid hN2; have HC2 := hid (HB1.out.trans (hb2.mono HB1.out.size)); have HO2 := hid (OwnG.on HN1.out hb2); clear hN2 hb2)
              | ((with_reducible refine wpList_apR (s := ?as6) (x := ?ax6) (es := (stE x (es.take k)).1) (B := W0.heap.size) (q := W1.heap.size) x ?ag6 ?ao6 ?av6 ?aw6 HO2.out HQ2.out (by have := HLE.out; omega) HC2.out.size ?_); (case ag6 => rfl); (case ao6 => rfl); (case av6 => rfl); (case aw6 => rfl); intro v2 W2 hO2 hg2; have HB2 := hid (HC2.out.grown hg2 HC2.out.size (fun j hj => (HO2.out.lt j hj).1)); have HN2 := hid hO2; obtain ⟨g2, cap2, n2, rfl, -⟩ := hO2.asSlice; clear hO2 hg2; have kx := (HKX.out _ HB2.out).cell (j := 0) (v := .int .i64 x.c.i) rfl; have ky : W2.cell? ⟨b, o + k * 19, none⟩ = some (Value.int .i64 y.c.i) := HKY.out _ HB2.out 0 _ rfl; have kL := HKL.out _ HB2.out)
              | fail)
            go_quiet (fail)
            obtain ⟨W3, hW3⟩ : ∃ W, W = W2.drewN nq := ⟨_, rfl⟩
            rw [← hW3]
            have HB3 : Hid (Below W0.heap.size W0 W3) := hid (by rw [hW3]; exact belowDrewN HB2.out _)
            have HN3 : Hid (OwnR W3 W0.heap.size _ ((stE x (es.take k)).1 ++ [x])) := hid (by rw [hW3]; exact HN2.out)
            clear hW3
            have kx := (HKX.out _ HB3.out).cell (j := 0) (v := .int .i64 x.c.i) rfl
            have ky : W3.cell? ⟨b, o + k * 19, none⟩ = some (Value.int .i64 y.c.i) := HKY.out _ HB3.out 0 _ rfl
            have kL := HKL.out _ HB3.out
            go_wp2_with (first
              | ((with_reducible refine loadEl (T := 74) (x := ?lx7) (b := ?lb7) (o := ?lo7) uR iR y ?lg7 ?lp7 ?lxx7 ?lc7 ?_); (case lg7 => rfl); (case lp7 => rfl); (case lxx7 => rfl); (case lc7 => exact (HKY.out _ HB3.out)))
              | ((with_reducible refine wpList_bsR (x := ?bx8) y ?bg8 ?bo8 ?bv8 ?_); (case bg8 => rfl); (case bo8 => rfl); (case bv8 => rfl); intro V4 hN4 hb4; have HQ4 := hid hN4; have HC4 := hid (HB3.out.trans (hb4.mono HB3.out.size)); have HO4 := hid (OwnG.on HN3.out hb4); clear hN4 hb4)
              | ((with_reducible refine wpList_apR (s := ?as9) (x := ?ax9) (es := ((stE x (es.take k)).1 ++ [x])) (B := W0.heap.size) (q := W3.heap.size) y ?ag9 ?ao9 ?av9 ?aw9 HO4.out HQ4.out (by have := HLE.out; simp only [List.length_append, List.length_singleton]; omega) HC4.out.size ?_); (case ag9 => rfl); (case ao9 => rfl); (case av9 => rfl); (case aw9 => rfl); intro v4 W4 hO4 hg4; have HB4 := hid (HC4.out.grown hg4 HC4.out.size (fun j hj => (HO4.out.lt j hj).1)); have HN4 := hid hO4; obtain ⟨g4, cap4, n4, rfl, -⟩ := hO4.asSlice; clear hO4 hg4; have kx := (HKX.out _ HB4.out).cell (j := 0) (v := .int .i64 x.c.i) rfl; have ky : W4.cell? ⟨b, o + k * 19, none⟩ = some (Value.int .i64 y.c.i) := HKY.out _ HB4.out 0 _ rfl; have kL := HKL.out _ HB4.out)
              | fail)
            go_roundw
            case rel => exact ⟨k + 1, by omega, by congr 1, by rw [HST.out, putStep_b HD.out (by omega) h2], by rw [HST.out, putStep_b HD.out (by omega) h2]; exact HN4.out, HB4.out⟩
            case measure => simp [RowKit.intOf]; omega
        · have h2 : ¬ y.c.i = x.c.i := by omega
          go_wp2_with fail
          go_quiet (fail)
          obtain ⟨W1, hW1⟩ : ∃ W, W = wr.drewN nq := ⟨_, rfl⟩
          rw [← hW1]
          have HB1 : Hid (Below W0.heap.size W0 W1) := hid (by rw [hW1]; exact belowDrewN HB.out _)
          have HN1 : Hid (OwnR W1 W0.heap.size _ (stE x (es.take k)).1) := hid (by rw [hW1]; exact HN.out)
          clear hW1
          have kx := (HKX.out _ HB1.out).cell (j := 0) (v := .int .i64 x.c.i) rfl
          have ky : W1.cell? ⟨b, o + k * 19, none⟩ = some (Value.int .i64 y.c.i) := HKY.out _ HB1.out 0 _ rfl
          have kL := HKL.out _ HB1.out
          go_wp2_with fail
          go_quiet (fail)
          obtain ⟨W2, hW2⟩ : ∃ W, W = W1.drewN nq := ⟨_, rfl⟩
          rw [← hW2]
          have HB2 : Hid (Below W0.heap.size W0 W2) := hid (by rw [hW2]; exact belowDrewN HB1.out _)
          have HN2 : Hid (OwnR W2 W0.heap.size _ (stE x (es.take k)).1) := hid (by rw [hW2]; exact HN1.out)
          clear hW2
          have kx := (HKX.out _ HB2.out).cell (j := 0) (v := .int .i64 x.c.i) rfl
          have ky : W2.cell? ⟨b, o + k * 19, none⟩ = some (Value.int .i64 y.c.i) := HKY.out _ HB2.out 0 _ rfl
          have kL := HKL.out _ HB2.out
          go_wp2_with (first
            | ((with_reducible refine loadEl (T := 74) (x := ?lx10) (b := ?lb10) (o := ?lo10) uR iR y ?lg10 ?lp10 ?lxx10 ?lc10 ?_); (case lg10 => rfl); (case lp10 => rfl); (case lxx10 => rfl); (case lc10 => exact (HKY.out _ HB2.out)))
            | ((with_reducible refine wpList_bsR (x := ?bx11) y ?bg11 ?bo11 ?bv11 ?_); (case bg11 => rfl); (case bo11 => rfl); (case bv11 => rfl); intro V3 hN3 hb3; have HQ3 := hid hN3; have HC3 := hid (HB2.out.trans (hb3.mono HB2.out.size)); have HO3 := hid (OwnG.on HN2.out hb3); clear hN3 hb3)
            | ((with_reducible refine wpList_apR (s := ?as12) (x := ?ax12) (es := (stE x (es.take k)).1) (B := W0.heap.size) (q := W2.heap.size) y ?ag12 ?ao12 ?av12 ?aw12 HO3.out HQ3.out (by have := HLE.out; omega) HC3.out.size ?_); (case ag12 => rfl); (case ao12 => rfl); (case av12 => rfl); (case aw12 => rfl); intro v3 W3 hO3 hg3; have HB3 := hid (HC3.out.grown hg3 HC3.out.size (fun j hj => (HO3.out.lt j hj).1)); have HN3 := hid hO3; obtain ⟨g3, cap3, n3, rfl, -⟩ := hO3.asSlice; clear hO3 hg3; have kx := (HKX.out _ HB3.out).cell (j := 0) (v := .int .i64 x.c.i) rfl; have ky : W3.cell? ⟨b, o + k * 19, none⟩ = some (Value.int .i64 y.c.i) := HKY.out _ HB3.out 0 _ rfl; have kL := HKL.out _ HB3.out)
            | fail)
          go_roundw
          case rel => exact ⟨k + 1, by omega, by congr 1, by rw [HST.out, putStep_c HD.out (by omega) h2], by rw [HST.out, putStep_c HD.out (by omega) h2]; exact HN3.out, HB3.out⟩
          case measure => simp [RowKit.intOf]; omega
      · have HD := hid hd
        have HLE : Hid ((stE x (es.take k)).1.length ≤ 20001) := hid (by have := HLN.out.1; have := HTL.out; omega)
        clear hd
        by_cases h2 : y.c.i = x.c.i
        · skip
          go_wp2_with fail
          go_quiet (fail)
          obtain ⟨W1, hW1⟩ : ∃ W, W = wr.drewN nq := ⟨_, rfl⟩
          rw [← hW1]
          have HB1 : Hid (Below W0.heap.size W0 W1) := hid (by rw [hW1]; exact belowDrewN HB.out _)
          have HN1 : Hid (OwnR W1 W0.heap.size _ (stE x (es.take k)).1) := hid (by rw [hW1]; exact HN.out)
          clear hW1
          have kx := (HKX.out _ HB1.out).cell (j := 0) (v := .int .i64 x.c.i) rfl
          have ky : W1.cell? ⟨b, o + k * 19, none⟩ = some (Value.int .i64 y.c.i) := HKY.out _ HB1.out 0 _ rfl
          have kL := HKL.out _ HB1.out
          go_wp2_with fail
          go_quiet (fail)
          obtain ⟨W2, hW2⟩ : ∃ W, W = W1.drewN nq := ⟨_, rfl⟩
          rw [← hW2]
          have HB2 : Hid (Below W0.heap.size W0 W2) := hid (by rw [hW2]; exact belowDrewN HB1.out _)
          have HN2 : Hid (OwnR W2 W0.heap.size _ (stE x (es.take k)).1) := hid (by rw [hW2]; exact HN1.out)
          clear hW2
          have kx := (HKX.out _ HB2.out).cell (j := 0) (v := .int .i64 x.c.i) rfl
          have ky : W2.cell? ⟨b, o + k * 19, none⟩ = some (Value.int .i64 y.c.i) := HKY.out _ HB2.out 0 _ rfl
          have kL := HKL.out _ HB2.out
          go_wp2_with fail
          go_roundw
          case rel => exact ⟨k + 1, by omega, by congr 1, by rw [HST.out, putStep_d HD.out h2], by rw [HST.out, putStep_d HD.out h2]; exact HN2.out, HB2.out⟩
          case measure => simp [RowKit.intOf]; omega
        · skip
          go_wp2_with fail
          go_quiet (fail)
          obtain ⟨W1, hW1⟩ : ∃ W, W = wr.drewN nq := ⟨_, rfl⟩
          rw [← hW1]
          have HB1 : Hid (Below W0.heap.size W0 W1) := hid (by rw [hW1]; exact belowDrewN HB.out _)
          have HN1 : Hid (OwnR W1 W0.heap.size _ (stE x (es.take k)).1) := hid (by rw [hW1]; exact HN.out)
          clear hW1
          have kx := (HKX.out _ HB1.out).cell (j := 0) (v := .int .i64 x.c.i) rfl
          have ky : W1.cell? ⟨b, o + k * 19, none⟩ = some (Value.int .i64 y.c.i) := HKY.out _ HB1.out 0 _ rfl
          have kL := HKL.out _ HB1.out
          go_wp2_with fail
          go_quiet (fail)
          obtain ⟨W2, hW2⟩ : ∃ W, W = W1.drewN nq := ⟨_, rfl⟩
          rw [← hW2]
          have HB2 : Hid (Below W0.heap.size W0 W2) := hid (by rw [hW2]; exact belowDrewN HB1.out _)
          have HN2 : Hid (OwnR W2 W0.heap.size _ (stE x (es.take k)).1) := hid (by rw [hW2]; exact HN1.out)
          clear hW2
          have kx := (HKX.out _ HB2.out).cell (j := 0) (v := .int .i64 x.c.i) rfl
          have ky : W2.cell? ⟨b, o + k * 19, none⟩ = some (Value.int .i64 y.c.i) := HKY.out _ HB2.out 0 _ rfl
          have kL := HKL.out _ HB2.out
          go_wp2_with (first
            | ((with_reducible refine loadEl (T := 74) (x := ?lx13) (b := ?lb13) (o := ?lo13) uR iR y ?lg13 ?lp13 ?lxx13 ?lc13 ?_); (case lg13 => rfl); (case lp13 => rfl); (case lxx13 => rfl); (case lc13 => exact (HKY.out _ HB2.out)))
            | ((with_reducible refine wpList_bsR (x := ?bx14) y ?bg14 ?bo14 ?bv14 ?_); (case bg14 => rfl); (case bo14 => rfl); (case bv14 => rfl); intro V3 hN3 hb3; have HQ3 := hid hN3; have HC3 := hid (HB2.out.trans (hb3.mono HB2.out.size)); have HO3 := hid (OwnG.on HN2.out hb3); clear hN3 hb3)
            | ((with_reducible refine wpList_apR (s := ?as15) (x := ?ax15) (es := (stE x (es.take k)).1) (B := W0.heap.size) (q := W2.heap.size) y ?ag15 ?ao15 ?av15 ?aw15 HO3.out HQ3.out (by have := HLE.out; omega) HC3.out.size ?_); (case ag15 => rfl); (case ao15 => rfl); (case av15 => rfl); (case aw15 => rfl); intro v3 W3 hO3 hg3; have HB3 := hid (HC3.out.grown hg3 HC3.out.size (fun j hj => (HO3.out.lt j hj).1)); have HN3 := hid hO3; obtain ⟨g3, cap3, n3, rfl, -⟩ := hO3.asSlice; clear hO3 hg3; have kx := (HKX.out _ HB3.out).cell (j := 0) (v := .int .i64 x.c.i) rfl; have ky : W3.cell? ⟨b, o + k * 19, none⟩ = some (Value.int .i64 y.c.i) := HKY.out _ HB3.out 0 _ rfl; have kL := HKL.out _ HB3.out)
            | fail)
          go_roundw
          case rel => exact ⟨k + 1, by omega, by congr 1, by rw [HST.out, putStep_e HD.out h2], by rw [HST.out, putStep_e HD.out h2]; exact HN3.out, HB3.out⟩
          case measure => simp [RowKit.intOf]; omega
    · have hkk : k = es.length := by omega
      subst hkk
      rw [List.take_length] at HN HLN ⊢
      clear HB
      have HFZ : Hid (∀ W, Below W0.heap.size W0 W → W.frozen? ⟨p, 2, none⟩ = false) := hid fun W hb => (HRX0.out.on (HW.out.trans (hb.mono (by have := HS.out; omega)))).cells.2.2.2.2.2.1
      have fz := HFZ.out _ HBB.out
      rcases hd : (stE x es).2 with _ | _
      · have HD := hid hd
        have HLE : Hid ((stE x es).1.length ≤ 20000) := hid (by have := HLN.out.2 HD.out; omega)
        clear hd
        go_wp2_with (first
          | ((with_reducible refine loadR (x := ?cx16) (b := ?cb16) (T := 74) x ?cg16 ?co16 ?cxx16 ?cc16 ?_); (case cg16 => rfl); (case co16 => rfl); (case cxx16 => rfl); (case cc16 => exact (HKX.out _ HBB.out)))
          | ((with_reducible refine wpList_bsR (x := ?bx17) x ?bg17 ?bo17 ?bv17 ?_); (case bg17 => rfl); (case bo17 => rfl); (case bv17 => rfl); intro V1 hN1 hb1; have HQ1 := hid hN1; have HC1 := hid (HBB.out.trans (hb1.mono HBB.out.size)); have HO1 := hid (OwnG.on HN.out hb1); clear hN1 hb1)
          | ((with_reducible refine wpList_apR (s := ?as18) (x := ?ax18) (es := (stE x es).1) (B := W0.heap.size) (q := wr.heap.size) x ?ag18 ?ao18 ?av18 ?aw18 HO1.out HQ1.out (by have := HLE.out; omega) HC1.out.size ?_); (case ag18 => rfl); (case ao18 => rfl); (case av18 => rfl); (case aw18 => rfl); intro v1 W1 hO1 hg1; have HB1 := hid (HC1.out.grown hg1 HC1.out.size (fun j hj => (HO1.out.lt j hj).1)); have HN1 := hid hO1; obtain ⟨g1, cap1, n1, rfl, -⟩ := hO1.asSlice; have kL := HKL.out _ HB1.out; have fz := HFZ.out _ HB1.out; clear hO1 hg1)
          | fail)
        go_end0
        have hx := OwnG.mono HN1.out (Nat.zero_le _)
        obtain ⟨h1, h2⟩ := (HRX0.out.on (HW.out.trans (HB1.out.mono (by have := HS.out; omega)))).set2 hx
        exact ⟨rfl, ⟨_, by rw [show placeG idE x es = (stE x es).1 ++ [x] from by unfold placeG putEnd; rw [if_neg (by rw [HD.out]; simp)]]; exact h1⟩, (Tch.ofBelow (HW.out.trans (HB1.out.mono (by have := HS.out; omega)))).trans h2⟩
      · have HD := hid hd
        clear hd
        go_wp2_with fail
        go_end0
        have hx := OwnG.mono HN.out (Nat.zero_le _)
        obtain ⟨h1, h2⟩ := (HRX0.out.on (HW.out.trans (HBB.out.mono (by have := HS.out; omega)))).set2 hx
        exact ⟨rfl, ⟨_, by rw [show placeG idE x es = (stE x es).1 from by unfold placeG putEnd; rw [if_pos HD.out]]; exact h1⟩, (Tch.ofBelow (HW.out.trans (HBB.out.mono (by have := HS.out; omega)))).trans h2⟩
end Go.Proofs.YtogoibigabpkhaaGreat
