import Derived.Test.YtlehcaacfgocaaaGreatG06
import Derived.Lib.QuietBelow
import Derived.BigQuiet
namespace Go.Proofs.YtlehcaacfgocaaaGreat
set_option linter.unusedVariables false
open Go.RowKit
open Go.Lib (hid)
set_option maxHeartbeats 1600000 in
set_option maxRecDepth 100000 in
theorem cFree (e : Ev) (w : World) : Calls Tryz.prog 113 #[.agg e.arr] w fun x w' => x = .returned (.agg ({ e with fr := true } : Ev).arr) ∧ Below w.heap.size w w' := by
  have HX : Hid (Ob ((w.alloc (.cells e.arr 67)).alloc zeroEc) (w.heap.size) 67 e) := hid (laid2_0 w (.cells e.arr 67) zeroEc)
  have HZ : Hid (Ob ((w.alloc (.cells e.arr 67)).alloc zeroEc) (w.heap.size + 1) 67 zE) := hid (laid2_1 w (.cells e.arr 67) zeroEc)
  have HW : Hid (Below w.heap.size w ((w.alloc (.cells e.arr 67)).alloc zeroEc)) := hid (laid2_b w (.cells e.arr 67) zeroEc)
  have tok : Hid (0 = 0) := hid rfl
  go_enter Tryz.func113, Tryz.ntmps113
  go_wp2_with (first
    | (clear tok; (with_reducible refine opaqueW ((w.alloc (.cells e.arr 67)).alloc zeroEc) ?_); intro W0 hW; rw [← hW] at HX HZ HW; clear hW; have kX7 : W0.cell? ⟨w.heap.size, 7, none⟩ = some (.int .i64 e.pr) := (HX.out).cell (j := 7) rfl; have kX15 : W0.cell? ⟨w.heap.size, 15, none⟩ = some (.bool e.fr) := (HX.out).cell (j := 15) rfl; have zX15 : W0.frozen? ⟨w.heap.size, 15, none⟩ = false := (HX.out).free 15)
    | ((with_reducible refine loadC (x := ?lx1) (b := ?lb1) (T := 67) ({ e with fr := true } : Ev) ?lg1 ?lo1 ?lxx1 ?lc1 ?lh1); (case lg1 => rfl); (case lo1 => rfl); (case lxx1 => rfl); (case lc1 => exact ((HX.out).set (j := 15) (v := .bool true) (e' := ({ e with fr := true } : Ev)) rfl)))
    | ((with_reducible refine storeC (x := ?sx2) (y := ?sy2) (b := ?sb2) (T := 67) ({ e with fr := true } : Ev) ?sg2 ?so2 ?sxx2 ?syy2 ?sc2 ?sh2); (case sg2 => rfl); (case so2 => rfl); (case sxx2 => rfl); (case syy2 => rfl); (case sc2 => exact Ob.room (setOther (q := w.heap.size) (j := 15) (v := .bool true) (HZ.out) (by omega))); intro W9 hO hU; have GZ := hid hO; have GX : Hid (Ob W9 (w.heap.size) 67 ({ e with fr := true } : Ev)) := hid (hU.ob (((HX.out).set (j := 15) (v := .bool true) (e' := ({ e with fr := true } : Ev)) rfl)) (by omega)); have GW := hid ((((HW.out).setCell (p := ⟨w.heap.size, 15, none⟩) (by first | exact Nat.le_refl _ | simp | omega) (.bool true))).trans (hU.below _ (by first | exact Nat.le_refl _ | omega))); clear hO hU; clear kX7 kX15 zX15; clear HX HZ HW; have HX := GX; clear GX; have HZ := GZ; clear GZ; have HW := GW; clear GW))
  refine bodyPost_ret (ret_cell1 rfl rfl (HZ.out).range Tryz.underlying67 rfl (infoEc ({ e with fr := true } : Ev))) rfl ⟨rfl, HW.out⟩
def accE (e : Ev) (b t : Int) (p : Sv) (full : Bool) : Ev × Int := if full = false ∨ withinB b 1048576 = false ∨ b = 0 then (e, 1) else if b < e.pr then (e, 11) else ({ (resE e t).1 with pr := b, ab := b, xt := t, xp := p }, 0)
set_option maxHeartbeats 1600000 in
set_option maxRecDepth 100000 in
theorem cAccept {e : Ev} {b t : Int} {p : Sv} {l : List C7} {w : World} (hp : Sl w p.v l) (ll : l.length ≤ 1024) (ht : timesB e.lo e.hi = true) :
    Calls Tryz.prog 119 #[.agg e.arr, .int .i64 b, .agg #[.int .i64 t, p.v]] w fun x w' => x = .returned (.tuple #[.agg (accE e b t p (fullB t l)).1.arr, .int .i64 (accE e b t p (fullB t l)).2]) ∧ Below w.heap.size w w' := by
  obtain ⟨b1, hb1⟩ : ∃ b, b = fullB t l := ⟨_, rfl⟩
  obtain ⟨b2, hb2⟩ : ∃ x, x = withinB b 1048576 := ⟨_, rfl⟩
  have hF := fun (W : World) (hB : Below w.heap.size w W) => cFull t (hp.on hB) ll
  have hb := fun W => cBallot b W
  have hR := fun (h : b1 = true) (W : World) => cReserved { e with pr := b, ab := b, xt := t, xp := p } t W ht (by rw [h] at hb1; unfold fullB at hb1; exact (Bool.and_eq_true_iff.1 hb1.symm).1)
  have HR : Hid ((resE { e with pr := b, ab := b, xt := t, xp := p } t).1 = { (resE e t).1 with pr := b, ab := b, xt := t, xp := p }) := hid (by unfold resE; split <;> rfl)
  rw [← hb1] at hF
  rw [← hb2] at hb
  rw [← hb1]
  have HR2 := hid hR
  have HB2 := hid hb2
  clear hb1 hb2 hp hR
  have HX : Hid (Ob (((w.alloc (.cells e.arr 67)).alloc (boxV t p.v)).alloc zeroEc) (w.heap.size) 67 e) := hid (laid3_0 w (.cells e.arr 67) (boxV t p.v) zeroEc)
  have HY : Hid ((((w.alloc (.cells e.arr 67)).alloc (boxV t p.v)).alloc zeroEc).heap[w.heap.size + 1]? = some (boxV t p.v)) := hid (laid3_1 w (.cells e.arr 67) (boxV t p.v) zeroEc)
  have HZ : Hid (Ob (((w.alloc (.cells e.arr 67)).alloc (boxV t p.v)).alloc zeroEc) (w.heap.size + 2) 67 zE) := hid (laid3_2 w (.cells e.arr 67) (boxV t p.v) zeroEc)
  have HW : Hid (Below w.heap.size w (((w.alloc (.cells e.arr 67)).alloc (boxV t p.v)).alloc zeroEc)) := hid (laid3_b w (.cells e.arr 67) (boxV t p.v) zeroEc)
  have tok : Hid (0 = 0) := hid rfl
  go_enter Tryz.func119, Tryz.ntmps119
  go_wp2_with (first
    | (clear tok; (with_reducible refine opaqueW (((w.alloc (.cells e.arr 67)).alloc (boxV t p.v)).alloc zeroEc) ?_); intro W0 hW; rw [← hW] at HX HY HZ HW; clear hW; have kY0 : W0.cell? ⟨w.heap.size + 1, 0, none⟩ = some (.int .i64 t) := (cellAt' HY.out 0).trans rfl; have kY1 : W0.cell? ⟨w.heap.size + 1, 1, none⟩ = some (.slice p.a p.n p.c) := (cellAt' HY.out 1).trans rfl)
    | fail)
  go_at_call 137
  refine (hF _ HW.out).mono ?_
  rintro x w1 ⟨rfl, hB⟩
  have GX : Hid (Ob w1 (w.heap.size) 67 e) := hid (heapB (HX.out) hB (Array.getElem?_eq_some_iff.1 (HX.out)).1)
  have GY : Hid (w1.heap[w.heap.size + 1]? = some (boxV t p.v)) := hid (heapB (HY.out) hB (Array.getElem?_eq_some_iff.1 (HY.out)).1)
  have GZ : Hid (Ob w1 (w.heap.size + 2) 67 zE) := hid (heapB (HZ.out) hB (Array.getElem?_eq_some_iff.1 (HZ.out)).1)
  have GW := hid ((HW.out).trans (hB.mono (HW.out).size))
  clear kY0 kY1
  clear hB HX HY HZ HW
  have HX := GX; clear GX
  have HY := GY; clear GY
  have HZ := GZ; clear GZ
  have HW := GW; clear GW
  have kX7 : w1.cell? ⟨w.heap.size, 7, none⟩ = some (.int .i64 e.pr) := (HX.out).cell (j := 7) rfl
  have zX7 : w1.frozen? ⟨w.heap.size, 7, none⟩ = false := (HX.out).free 7
  have kX12 : w1.cell? ⟨w.heap.size, 12, none⟩ = some (.int .i64 e.ab) := (HX.out).cell (j := 12) rfl
  have zX12 : w1.frozen? ⟨w.heap.size, 12, none⟩ = false := (HX.out).free 12
  have kX13 : w1.cell? ⟨w.heap.size, 13, none⟩ = some (.int .i64 e.xt) := (HX.out).cell (j := 13) rfl
  have zX13 : w1.frozen? ⟨w.heap.size, 13, none⟩ = false := (HX.out).free 13
  have kX14 : w1.cell? ⟨w.heap.size, 14, none⟩ = some (.slice e.xp.a e.xp.n e.xp.c) := (HX.out).cell (j := 14) rfl
  have zX14 : w1.frozen? ⟨w.heap.size, 14, none⟩ = false := (HX.out).free 14
  have kY0 : w1.cell? ⟨w.heap.size + 1, 0, none⟩ = some (.int .i64 t) := (cellAt' HY.out 0).trans rfl
  have kY1 : w1.cell? ⟨w.heap.size + 1, 1, none⟩ = some (.slice p.a p.n p.c) := (cellAt' HY.out 1).trans rfl
  rcases b1 with _ | _
  · have HE := hid (show accE e b t p false = (e, 1) from if_pos (.inl rfl))
    go_wp2_with (first
      | ((with_reducible refine loadC (x := ?lx3) (b := ?lb3) (T := 67) e ?lg3 ?lo3 ?lxx3 ?lc3 ?lh3); (case lg3 => rfl); (case lo3 => rfl); (case lxx3 => rfl); (case lc3 => exact HX.out))
      | ((with_reducible refine storeC (x := ?sx4) (y := ?sy4) (b := ?sb4) (T := 67) e ?sg4 ?so4 ?sxx4 ?syy4 ?sc4 ?sh4); (case sg4 => rfl); (case so4 => rfl); (case sxx4 => rfl); (case syy4 => rfl); (case sc4 => exact Ob.room HZ.out); intro W9 hO hU; have GZ := hid hO; have GX : Hid (Ob W9 (w.heap.size) 67 e) := hid (hU.ob (HX.out) (by omega)); have GY : Hid (W9.heap[w.heap.size + 1]? = some (boxV t p.v)) := hid (hU.ob (HY.out) (by omega)); have GW := hid ((HW.out).trans (hU.below _ (by first | exact Nat.le_refl _ | omega))); clear hO hU; clear kX7 zX7 kX12 zX12 kX13 zX13 kX14 zX14 kY0 kY1; clear HX HY HZ HW; have HX := GX; clear GX; have HY := GY; clear GY; have HZ := GZ; clear GZ; have HW := GW; clear GW))
    refine bodyPost_ret (ret_cell_tmp rfl rfl rfl (HZ.out).range Tryz.underlying67 rfl (infoEc e)) rfl ⟨by rw [HE.out]; rfl, HW.out⟩
  · have hR := HR2.out rfl
    clear HR2
    rcases b2 with _ | _
    · have HE := hid (show accE e b t p true = (e, 1) from if_pos (.inr (.inl HB2.out.symm)))
      go_wp2_with (first
        | (go_at_call 102; refine (hb _).mono ?_; rintro x w' ⟨rfl, rfl⟩)
        | ((with_reducible refine loadC (x := ?lx5) (b := ?lb5) (T := 67) e ?lg5 ?lo5 ?lxx5 ?lc5 ?lh5); (case lg5 => rfl); (case lo5 => rfl); (case lxx5 => rfl); (case lc5 => exact HX.out))
        | ((with_reducible refine storeC (x := ?sx6) (y := ?sy6) (b := ?sb6) (T := 67) e ?sg6 ?so6 ?sxx6 ?syy6 ?sc6 ?sh6); (case sg6 => rfl); (case so6 => rfl); (case sxx6 => rfl); (case syy6 => rfl); (case sc6 => exact Ob.room HZ.out); intro W9 hO hU; have GZ := hid hO; have GX : Hid (Ob W9 (w.heap.size) 67 e) := hid (hU.ob (HX.out) (by omega)); have GY : Hid (W9.heap[w.heap.size + 1]? = some (boxV t p.v)) := hid (hU.ob (HY.out) (by omega)); have GW := hid ((HW.out).trans (hU.below _ (by first | exact Nat.le_refl _ | omega))); clear hO hU; clear kX7 zX7 kX12 zX12 kX13 zX13 kX14 zX14 kY0 kY1; clear HX HY HZ HW; have HX := GX; clear GX; have HY := GY; clear GY; have HZ := GZ; clear GZ; have HW := GW; clear GW))
      refine bodyPost_ret (ret_cell_tmp rfl rfl rfl (HZ.out).range Tryz.underlying67 rfl (infoEc e)) rfl ⟨by rw [HE.out]; rfl, HW.out⟩
    · by_cases h0 : b = 0
      · have HE := hid (show accE e b t p true = (e, 1) from if_pos (.inr (.inr h0)))
        subst h0
        go_wp2_with (first
          | (go_at_call 102; refine (hb _).mono ?_; rintro x w' ⟨rfl, rfl⟩)
          | ((with_reducible refine loadC (x := ?lx7) (b := ?lb7) (T := 67) e ?lg7 ?lo7 ?lxx7 ?lc7 ?lh7); (case lg7 => rfl); (case lo7 => rfl); (case lxx7 => rfl); (case lc7 => exact HX.out))
          | ((with_reducible refine storeC (x := ?sx8) (y := ?sy8) (b := ?sb8) (T := 67) e ?sg8 ?so8 ?sxx8 ?syy8 ?sc8 ?sh8); (case sg8 => rfl); (case so8 => rfl); (case sxx8 => rfl); (case syy8 => rfl); (case sc8 => exact Ob.room HZ.out); intro W9 hO hU; have GZ := hid hO; have GX : Hid (Ob W9 (w.heap.size) 67 e) := hid (hU.ob (HX.out) (by omega)); have GY : Hid (W9.heap[w.heap.size + 1]? = some (boxV t p.v)) := hid (hU.ob (HY.out) (by omega)); have GW := hid ((HW.out).trans (hU.below _ (by first | exact Nat.le_refl _ | omega))); clear hO hU; clear kX7 zX7 kX12 zX12 kX13 zX13 kX14 zX14 kY0 kY1; clear HX HY HZ HW; have HX := GX; clear GX; have HY := GY; clear GY; have HZ := GZ; clear GZ; have HW := GW; clear GW))
        refine bodyPost_ret (ret_cell_tmp rfl rfl rfl (HZ.out).range Tryz.underlying67 rfl (infoEc e)) rfl ⟨by rw [HE.out]; rfl, HW.out⟩
      · have h0q : (b == 0) = false := by simp [h0]
        by_cases h1 : b < e.pr
        · have HE := hid (show accE e b t p true = (e, 11) by unfold accE; rw [if_neg (by rw [← HB2.out]; simp [h0]), if_pos h1])
          go_wp2_with (first
            | (go_at_call 102; refine (hb _).mono ?_; rintro x w' ⟨rfl, rfl⟩)
            | ((with_reducible refine loadC (x := ?lx9) (b := ?lb9) (T := 67) e ?lg9 ?lo9 ?lxx9 ?lc9 ?lh9); (case lg9 => rfl); (case lo9 => rfl); (case lxx9 => rfl); (case lc9 => exact HX.out))
            | ((with_reducible refine storeC (x := ?sx10) (y := ?sy10) (b := ?sb10) (T := 67) e ?sg10 ?so10 ?sxx10 ?syy10 ?sc10 ?sh10); (case sg10 => rfl); (case so10 => rfl); (case sxx10 => rfl); (case syy10 => rfl); (case sc10 => exact Ob.room HZ.out); intro W9 hO hU; have GZ := hid hO; have GX : Hid (Ob W9 (w.heap.size) 67 e) := hid (hU.ob (HX.out) (by omega)); have GY : Hid (W9.heap[w.heap.size + 1]? = some (boxV t p.v)) := hid (hU.ob (HY.out) (by omega)); have GW := hid ((HW.out).trans (hU.below _ (by first | exact Nat.le_refl _ | omega))); clear hO hU; clear kX7 zX7 kX12 zX12 kX13 zX13 kX14 zX14 kY0 kY1; clear HX HY HZ HW; have HX := GX; clear GX; have HY := GY; clear GY; have HZ := GZ; clear GZ; have HW := GW; clear GW))
          refine bodyPost_ret (ret_cell_tmp rfl rfl rfl (HZ.out).range Tryz.underlying67 rfl (infoEc e)) rfl ⟨by rw [HE.out]; rfl, HW.out⟩
        · obtain ⟨e1, he1⟩ : ∃ x : Ev, x = (resE { e with pr := b, ab := b, xt := t, xp := p } t).1 := ⟨_, rfl⟩
          rw [← he1] at hR HR
          have HE := hid (show accE e b t p true = (e1, 0) by unfold accE; rw [if_neg (by rw [← HB2.out]; simp [h0]), if_neg h1, HR.out])
          clear he1 HR
          go_wp2_with (first
            | (go_at_call 102; refine (hb _).mono ?_; rintro x w' ⟨rfl, rfl⟩)
            | fail)
          go_region
          go_wp2_with (first
            | ((with_reducible refine loadC (x := ?lx11) (b := ?lb11) (T := 67) ({ e with pr := b, ab := b, xt := t, xp := p } : Ev) ?lg11 ?lo11 ?lxx11 ?lc11 ?lh11); (case lg11 => rfl); (case lo11 => rfl); (case lxx11 => rfl); (case lc11 => exact (obDrew ((((((((HX.out).set (j := 7) (v := .int .i64 b) (e' := ({ e with pr := b } : Ev)) rfl)).set (j := 12) (v := .int .i64 b) (e' := ({ e with pr := b, ab := b } : Ev)) rfl)).set (j := 13) (v := .int .i64 t) (e' := ({ e with pr := b, ab := b, xt := t } : Ev)) rfl)).set (j := 14) (v := .slice p.a p.n p.c) (e' := ({ e with pr := b, ab := b, xt := t, xp := p } : Ev)) rfl))))
            | fail)
          go_at_call 154
          refine (hR _).mono ?_
          rintro x w4 ⟨rfl, hB⟩
          have GX : Hid (Ob w4 (w.heap.size) 67 ({ e with pr := b, ab := b, xt := t, xp := p } : Ev)) := hid (heapB ((obDrew ((((((((HX.out).set (j := 7) (v := .int .i64 b) (e' := ({ e with pr := b } : Ev)) rfl)).set (j := 12) (v := .int .i64 b) (e' := ({ e with pr := b, ab := b } : Ev)) rfl)).set (j := 13) (v := .int .i64 t) (e' := ({ e with pr := b, ab := b, xt := t } : Ev)) rfl)).set (j := 14) (v := .slice p.a p.n p.c) (e' := ({ e with pr := b, ab := b, xt := t, xp := p } : Ev)) rfl))) hB (Array.getElem?_eq_some_iff.1 ((obDrew ((((((((HX.out).set (j := 7) (v := .int .i64 b) (e' := ({ e with pr := b } : Ev)) rfl)).set (j := 12) (v := .int .i64 b) (e' := ({ e with pr := b, ab := b } : Ev)) rfl)).set (j := 13) (v := .int .i64 t) (e' := ({ e with pr := b, ab := b, xt := t } : Ev)) rfl)).set (j := 14) (v := .slice p.a p.n p.c) (e' := ({ e with pr := b, ab := b, xt := t, xp := p } : Ev)) rfl)))).1)
          have GY : Hid (w4.heap[w.heap.size + 1]? = some (boxV t p.v)) := hid (heapB ((obDrew (setOther (q := w.heap.size) (j := 14) (v := .slice p.a p.n p.c) ((setOther (q := w.heap.size) (j := 13) (v := .int .i64 t) ((setOther (q := w.heap.size) (j := 12) (v := .int .i64 b) ((setOther (q := w.heap.size) (j := 7) (v := .int .i64 b) (HY.out) (by omega))) (by omega))) (by omega))) (by omega)))) hB (Array.getElem?_eq_some_iff.1 ((obDrew (setOther (q := w.heap.size) (j := 14) (v := .slice p.a p.n p.c) ((setOther (q := w.heap.size) (j := 13) (v := .int .i64 t) ((setOther (q := w.heap.size) (j := 12) (v := .int .i64 b) ((setOther (q := w.heap.size) (j := 7) (v := .int .i64 b) (HY.out) (by omega))) (by omega))) (by omega))) (by omega))))).1)
          have GZ : Hid (Ob w4 (w.heap.size + 2) 67 zE) := hid (heapB ((obDrew (setOther (q := w.heap.size) (j := 14) (v := .slice p.a p.n p.c) ((setOther (q := w.heap.size) (j := 13) (v := .int .i64 t) ((setOther (q := w.heap.size) (j := 12) (v := .int .i64 b) ((setOther (q := w.heap.size) (j := 7) (v := .int .i64 b) (HZ.out) (by omega))) (by omega))) (by omega))) (by omega)))) hB (Array.getElem?_eq_some_iff.1 ((obDrew (setOther (q := w.heap.size) (j := 14) (v := .slice p.a p.n p.c) ((setOther (q := w.heap.size) (j := 13) (v := .int .i64 t) ((setOther (q := w.heap.size) (j := 12) (v := .int .i64 b) ((setOther (q := w.heap.size) (j := 7) (v := .int .i64 b) (HZ.out) (by omega))) (by omega))) (by omega))) (by omega))))).1)
          have GW := hid (((belowDrew ((((((((HW.out).setCell (p := ⟨w.heap.size, 7, none⟩) (by first | exact Nat.le_refl _ | simp | omega) (.int .i64 b))).setCell (p := ⟨w.heap.size, 12, none⟩) (by first | exact Nat.le_refl _ | simp | omega) (.int .i64 b))).setCell (p := ⟨w.heap.size, 13, none⟩) (by first | exact Nat.le_refl _ | simp | omega) (.int .i64 t))).setCell (p := ⟨w.heap.size, 14, none⟩) (by first | exact Nat.le_refl _ | simp | omega) (.slice p.a p.n p.c)))).trans (hB.mono ((belowDrew ((((((((HW.out).setCell (p := ⟨w.heap.size, 7, none⟩) (by first | exact Nat.le_refl _ | simp | omega) (.int .i64 b))).setCell (p := ⟨w.heap.size, 12, none⟩) (by first | exact Nat.le_refl _ | simp | omega) (.int .i64 b))).setCell (p := ⟨w.heap.size, 13, none⟩) (by first | exact Nat.le_refl _ | simp | omega) (.int .i64 t))).setCell (p := ⟨w.heap.size, 14, none⟩) (by first | exact Nat.le_refl _ | simp | omega) (.slice p.a p.n p.c)))).size))
          clear kX7 zX7 kX12 zX12 kX13 zX13 kX14 zX14 kY0 kY1
          clear hB HX HY HZ HW
          have HX := GX; clear GX
          have HY := GY; clear GY
          have HZ := GZ; clear GZ
          have HW := GW; clear GW
          go_wp2_with (first
            | ((with_reducible refine uponStore (e := e1) (Ob.room HZ.out) ?_); intro W9 hO hU; have GZ := hid hO; have GX : Hid (Ob W9 (w.heap.size) 67 ({ e with pr := b, ab := b, xt := t, xp := p } : Ev)) := hid (hU.ob (HX.out) (by omega)); have GY : Hid (W9.heap[w.heap.size + 1]? = some (boxV t p.v)) := hid (hU.ob (HY.out) (by omega)); have GW := hid ((HW.out).trans (hU.below _ (by first | exact Nat.le_refl _ | omega))); clear hO hU; clear HX HY HZ HW; have HX := GX; clear GX; have HY := GY; clear GY; have HZ := GZ; clear GZ; have HW := GW; clear GW)
            | fail)
          refine bodyPost_ret (ret_cell_tmp rfl rfl rfl (HZ.out).range Tryz.underlying67 rfl (infoEc e1)) rfl ⟨by rw [HE.out]; rfl, HW.out⟩
def finC (e : Ev) (t : Int) (p : Sv) (full same : Bool) : Ev × Int := if full = false then (e, 1) else if e.dn = true then (if same = true then (e, 0) else (e, 6)) else ({ e with dn := true, vt := t, vp := p }, 0)
set_option maxHeartbeats 1600000 in
set_option maxRecDepth 100000 in
theorem cFinish {e : Ev} {t : Int} {p : Sv} {v l : List C7} {w : World} (hv : Sl w e.vp.v v) (hp : Sl w p.v l) (lv : v.length ≤ 1024) (ll : l.length ≤ 1024) :
    Calls Tryz.prog 120 #[.agg e.arr, .agg #[.int .i64 t, p.v]] w fun x w' => x = .returned (.tuple #[.agg (finC e t p (fullB t l) (decide (e.vt = t) && sameB v l)).1.arr, .int .i64 (finC e t p (fullB t l) (decide (e.vt = t) && sameB v l)).2]) ∧ Below w.heap.size w w' := by
  obtain ⟨b1, hb1⟩ : ∃ b, b = fullB t l := ⟨_, rfl⟩
  obtain ⟨b2, hb2⟩ : ∃ b, b = (decide (e.vt = t) && sameB v l) := ⟨_, rfl⟩
  have hF := fun (W : World) (hB : Below w.heap.size w W) => cFull t (hp.on hB) ll
  have hS := fun (W : World) (hB : Below w.heap.size w W) => cSameVG e.vt t (hv.on hB) (hp.on hB) (by omega) (by omega)
  rw [← hb1] at hF
  rw [← hb2] at hS
  rw [← hb1, ← hb2]
  clear hb1 hb2 hv hp
  have HX : Hid (Ob (((w.alloc (.cells e.arr 67)).alloc (boxV t p.v)).alloc zeroEc) (w.heap.size) 67 e) := hid (laid3_0 w (.cells e.arr 67) (boxV t p.v) zeroEc)
  have HY : Hid ((((w.alloc (.cells e.arr 67)).alloc (boxV t p.v)).alloc zeroEc).heap[w.heap.size + 1]? = some (boxV t p.v)) := hid (laid3_1 w (.cells e.arr 67) (boxV t p.v) zeroEc)
  have HZ : Hid (Ob (((w.alloc (.cells e.arr 67)).alloc (boxV t p.v)).alloc zeroEc) (w.heap.size + 2) 67 zE) := hid (laid3_2 w (.cells e.arr 67) (boxV t p.v) zeroEc)
  have HW : Hid (Below w.heap.size w (((w.alloc (.cells e.arr 67)).alloc (boxV t p.v)).alloc zeroEc)) := hid (laid3_b w (.cells e.arr 67) (boxV t p.v) zeroEc)
  have tok : Hid (0 = 0) := hid rfl
  go_enter Tryz.func120, Tryz.ntmps120
  go_wp2_with (first
    | (clear tok; (with_reducible refine opaqueW (((w.alloc (.cells e.arr 67)).alloc (boxV t p.v)).alloc zeroEc) ?_); intro W0 hW; rw [← hW] at HX HY HZ HW; clear hW; have kY0 : W0.cell? ⟨w.heap.size + 1, 0, none⟩ = some (.int .i64 t) := (cellAt' HY.out 0).trans rfl; have kY1 : W0.cell? ⟨w.heap.size + 1, 1, none⟩ = some (.slice p.a p.n p.c) := (cellAt' HY.out 1).trans rfl)
    | fail)
  go_at_call 137
  refine (hF _ HW.out).mono ?_
  rintro x w1 ⟨rfl, hB⟩
  have GX : Hid (Ob w1 (w.heap.size) 67 e) := hid (heapB (HX.out) hB (Array.getElem?_eq_some_iff.1 (HX.out)).1)
  have GY : Hid (w1.heap[w.heap.size + 1]? = some (boxV t p.v)) := hid (heapB (HY.out) hB (Array.getElem?_eq_some_iff.1 (HY.out)).1)
  have GZ : Hid (Ob w1 (w.heap.size + 2) 67 zE) := hid (heapB (HZ.out) hB (Array.getElem?_eq_some_iff.1 (HZ.out)).1)
  have GW := hid ((HW.out).trans (hB.mono (HW.out).size))
  clear kY0 kY1
  clear hB HX HY HZ HW
  have HX := GX; clear GX
  have HY := GY; clear GY
  have HZ := GZ; clear GZ
  have HW := GW; clear GW
  have kY0 : w1.cell? ⟨w.heap.size + 1, 0, none⟩ = some (.int .i64 t) := (cellAt' HY.out 0).trans rfl
  have kY1 : w1.cell? ⟨w.heap.size + 1, 1, none⟩ = some (.slice p.a p.n p.c) := (cellAt' HY.out 1).trans rfl
  rcases b1 with _ | _
  · have HE := hid (show finC e t p false b2 = (e, 1) from rfl)
    go_wp2_with (first
      | ((with_reducible refine loadC (x := ?lx12) (b := ?lb12) (T := 67) e ?lg12 ?lo12 ?lxx12 ?lc12 ?lh12); (case lg12 => rfl); (case lo12 => rfl); (case lxx12 => rfl); (case lc12 => exact HX.out))
      | ((with_reducible refine storeC (x := ?sx13) (y := ?sy13) (b := ?sb13) (T := 67) e ?sg13 ?so13 ?sxx13 ?syy13 ?sc13 ?sh13); (case sg13 => rfl); (case so13 => rfl); (case sxx13 => rfl); (case syy13 => rfl); (case sc13 => exact Ob.room HZ.out); intro W9 hO hU; have GZ := hid hO; have GX : Hid (Ob W9 (w.heap.size) 67 e) := hid (hU.ob (HX.out) (by omega)); have GY : Hid (W9.heap[w.heap.size + 1]? = some (boxV t p.v)) := hid (hU.ob (HY.out) (by omega)); have GW := hid ((HW.out).trans (hU.below _ (by first | exact Nat.le_refl _ | omega))); clear hO hU; clear kY0 kY1; clear HX HY HZ HW; have HX := GX; clear GX; have HY := GY; clear GY; have HZ := GZ; clear GZ; have HW := GW; clear GW))
    refine bodyPost_ret (ret_cell_tmp rfl rfl rfl (HZ.out).range Tryz.underlying67 rfl (infoEc e)) rfl ⟨by rw [HE.out]; rfl, HW.out⟩
  · rcases hd : e.dn with _ | _
    · have HE := hid (show finC e t p true b2 = ({ e with dn := true, vt := t, vp := p }, 0) by unfold finC; rw [hd]; rfl)
      have kX16 : w1.cell? ⟨w.heap.size, 16, none⟩ = some (.bool e.dn) := (HX.out).cell (j := 16) rfl
      have zX16 : w1.frozen? ⟨w.heap.size, 16, none⟩ = false := (HX.out).free 16
      have kX17 : w1.cell? ⟨w.heap.size, 17, none⟩ = some (.int .i64 e.vt) := (HX.out).cell (j := 17) rfl
      have zX17 : w1.frozen? ⟨w.heap.size, 17, none⟩ = false := (HX.out).free 17
      have kX18 : w1.cell? ⟨w.heap.size, 18, none⟩ = some (.slice e.vp.a e.vp.n e.vp.c) := (HX.out).cell (j := 18) rfl
      have zX18 : w1.frozen? ⟨w.heap.size, 18, none⟩ = false := (HX.out).free 18
      rw [hd] at kX16
      clear hd
      go_wp2_with fail
      go_region
      go_wp2_with (first
        | ((with_reducible refine loadC (x := ?lx14) (b := ?lb14) (T := 67) ({ e with dn := true, vt := t, vp := p } : Ev) ?lg14 ?lo14 ?lxx14 ?lc14 ?lh14); (case lg14 => rfl); (case lo14 => rfl); (case lxx14 => rfl); (case lc14 => exact (obDrew ((((((HX.out).set (j := 16) (v := .bool true) (e' := ({ e with dn := true } : Ev)) rfl)).set (j := 17) (v := .int .i64 t) (e' := ({ e with dn := true, vt := t } : Ev)) rfl)).set (j := 18) (v := .slice p.a p.n p.c) (e' := ({ e with dn := true, vt := t, vp := p } : Ev)) rfl))))
        | ((with_reducible refine storeC (x := ?sx15) (y := ?sy15) (b := ?sb15) (T := 67) ({ e with dn := true, vt := t, vp := p } : Ev) ?sg15 ?so15 ?sxx15 ?syy15 ?sc15 ?sh15); (case sg15 => rfl); (case so15 => rfl); (case sxx15 => rfl); (case syy15 => rfl); (case sc15 => exact Ob.room (obDrew (setOther (q := w.heap.size) (j := 18) (v := .slice p.a p.n p.c) ((setOther (q := w.heap.size) (j := 17) (v := .int .i64 t) ((setOther (q := w.heap.size) (j := 16) (v := .bool true) (HZ.out) (by omega))) (by omega))) (by omega)))); intro W9 hO hU; have GZ := hid hO; have GX : Hid (Ob W9 (w.heap.size) 67 ({ e with dn := true, vt := t, vp := p } : Ev)) := hid (hU.ob ((obDrew ((((((HX.out).set (j := 16) (v := .bool true) (e' := ({ e with dn := true } : Ev)) rfl)).set (j := 17) (v := .int .i64 t) (e' := ({ e with dn := true, vt := t } : Ev)) rfl)).set (j := 18) (v := .slice p.a p.n p.c) (e' := ({ e with dn := true, vt := t, vp := p } : Ev)) rfl))) (by omega)); have GY : Hid (W9.heap[w.heap.size + 1]? = some (boxV t p.v)) := hid (hU.ob ((obDrew (setOther (q := w.heap.size) (j := 18) (v := .slice p.a p.n p.c) ((setOther (q := w.heap.size) (j := 17) (v := .int .i64 t) ((setOther (q := w.heap.size) (j := 16) (v := .bool true) (HY.out) (by omega))) (by omega))) (by omega)))) (by omega)); have GW := hid (((belowDrew ((((((HW.out).setCell (p := ⟨w.heap.size, 16, none⟩) (by first | exact Nat.le_refl _ | simp | omega) (.bool true))).setCell (p := ⟨w.heap.size, 17, none⟩) (by first | exact Nat.le_refl _ | simp | omega) (.int .i64 t))).setCell (p := ⟨w.heap.size, 18, none⟩) (by first | exact Nat.le_refl _ | simp | omega) (.slice p.a p.n p.c)))).trans (hU.below _ (by first | exact Nat.le_refl _ | omega))); clear hO hU; clear kY0 kY1 kX16 zX16 kX17 zX17 kX18 zX18; clear HX HY HZ HW; have HX := GX; clear GX; have HY := GY; clear GY; have HZ := GZ; clear GZ; have HW := GW; clear GW))
      refine bodyPost_ret (ret_cell_tmp rfl rfl rfl (HZ.out).range Tryz.underlying67 rfl (infoEc ({ e with dn := true, vt := t, vp := p } : Ev))) rfl ⟨by rw [HE.out]; rfl, HW.out⟩
    · skip
      have kX16 : w1.cell? ⟨w.heap.size, 16, none⟩ = some (.bool e.dn) := (HX.out).cell (j := 16) rfl
      have zX16 : w1.frozen? ⟨w.heap.size, 16, none⟩ = false := (HX.out).free 16
      have kX17 : w1.cell? ⟨w.heap.size, 17, none⟩ = some (.int .i64 e.vt) := (HX.out).cell (j := 17) rfl
      have zX17 : w1.frozen? ⟨w.heap.size, 17, none⟩ = false := (HX.out).free 17
      have kX18 : w1.cell? ⟨w.heap.size, 18, none⟩ = some (.slice e.vp.a e.vp.n e.vp.c) := (HX.out).cell (j := 18) rfl
      have zX18 : w1.frozen? ⟨w.heap.size, 18, none⟩ = false := (HX.out).free 18
      rw [hd] at kX16
      go_wp2_with fail
      go_at_call 155
      refine (hS _ HW.out).mono ?_
      rintro x w2 ⟨rfl, hB⟩
      have GX : Hid (Ob w2 (w.heap.size) 67 e) := hid (heapB (HX.out) hB (Array.getElem?_eq_some_iff.1 (HX.out)).1)
      have GY : Hid (w2.heap[w.heap.size + 1]? = some (boxV t p.v)) := hid (heapB (HY.out) hB (Array.getElem?_eq_some_iff.1 (HY.out)).1)
      have GZ : Hid (Ob w2 (w.heap.size + 2) 67 zE) := hid (heapB (HZ.out) hB (Array.getElem?_eq_some_iff.1 (HZ.out)).1)
      have GW := hid ((HW.out).trans (hB.mono (HW.out).size))
      clear kY0 kY1 kX16 zX16 kX17 zX17 kX18 zX18
      clear hB HX HY HZ HW
      have HX := GX; clear GX
      have HY := GY; clear GY
      have HZ := GZ; clear GZ
      have HW := GW; clear GW
      have kX16 : w2.cell? ⟨w.heap.size, 16, none⟩ = some (.bool e.dn) := (HX.out).cell (j := 16) rfl
      rw [hd] at kX16
      rcases b2 with _ | _
      · have HE := hid (show finC e t p true false = (e, 6) by unfold finC; rw [hd]; rfl)
        go_wp2_with (first
          | ((with_reducible refine loadC (x := ?lx16) (b := ?lb16) (T := 67) e ?lg16 ?lo16 ?lxx16 ?lc16 ?lh16); (case lg16 => rfl); (case lo16 => rfl); (case lxx16 => rfl); (case lc16 => exact HX.out))
          | ((with_reducible refine storeC (x := ?sx17) (y := ?sy17) (b := ?sb17) (T := 67) e ?sg17 ?so17 ?sxx17 ?syy17 ?sc17 ?sh17); (case sg17 => rfl); (case so17 => rfl); (case sxx17 => rfl); (case syy17 => rfl); (case sc17 => exact Ob.room HZ.out); intro W9 hO hU; have GZ := hid hO; have GX : Hid (Ob W9 (w.heap.size) 67 e) := hid (hU.ob (HX.out) (by omega)); have GY : Hid (W9.heap[w.heap.size + 1]? = some (boxV t p.v)) := hid (hU.ob (HY.out) (by omega)); have GW := hid ((HW.out).trans (hU.below _ (by first | exact Nat.le_refl _ | omega))); clear hO hU; clear kX16; clear HX HY HZ HW; have HX := GX; clear GX; have HY := GY; clear GY; have HZ := GZ; clear GZ; have HW := GW; clear GW))
        refine bodyPost_ret (ret_cell_tmp rfl rfl rfl (HZ.out).range Tryz.underlying67 rfl (infoEc e)) rfl ⟨by rw [HE.out]; rfl, HW.out⟩
      · have HE := hid (show finC e t p true true = (e, 0) by unfold finC; rw [hd]; rfl)
        go_wp2_with (first
          | ((with_reducible refine loadC (x := ?lx18) (b := ?lb18) (T := 67) e ?lg18 ?lo18 ?lxx18 ?lc18 ?lh18); (case lg18 => rfl); (case lo18 => rfl); (case lxx18 => rfl); (case lc18 => exact HX.out))
          | ((with_reducible refine storeC (x := ?sx19) (y := ?sy19) (b := ?sb19) (T := 67) e ?sg19 ?so19 ?sxx19 ?syy19 ?sc19 ?sh19); (case sg19 => rfl); (case so19 => rfl); (case sxx19 => rfl); (case syy19 => rfl); (case sc19 => exact Ob.room HZ.out); intro W9 hO hU; have GZ := hid hO; have GX : Hid (Ob W9 (w.heap.size) 67 e) := hid (hU.ob (HX.out) (by omega)); have GY : Hid (W9.heap[w.heap.size + 1]? = some (boxV t p.v)) := hid (hU.ob (HY.out) (by omega)); have GW := hid ((HW.out).trans (hU.below _ (by first | exact Nat.le_refl _ | omega))); clear hO hU; clear kX16; clear HX HY HZ HW; have HX := GX; clear GX; have HY := GY; clear GY; have HZ := GZ; clear GZ; have HW := GW; clear GW))
        refine bodyPost_ret (ret_cell_tmp rfl rfl rfl (HZ.out).range Tryz.underlying67 rfl (infoEc e)) rfl ⟨by rw [HE.out]; rfl, HW.out⟩
end Go.Proofs.YtlehcaacfgocaaaGreat
namespace Go.Proofs.YtlehcaacfgocaaaGreat
set_option linter.unusedVariables false
open Go.RowKit Go.Sort
open Go.Lib (hid)
theorem wpAny_rest4 {P : Program} {o0 o1 o2 o3 : Oper} {l : List Oper} {w0 : World} {Q : Exit → Act → World → Prop} {fuel : Nat} {listed : Array Bool} {a : Act} (hf : fuel = l.length) (hs : Region.noSelect (o0 :: o1 :: o2 :: o3 :: l).toArray = true)
    (hB : Region.lexFrom .any (o0 :: o1 :: o2 :: o3 :: l).toArray l.length 4 listed = true) (h : wpQuiet P (o0 :: o1 :: o2 :: o3 :: l).toArray (fun w' => ∃ p : Regrown, w' = grow (redrawn w0 p.d) p.os) (fun a' => ∀ w', (∃ p : Regrown, w' = grow (redrawn w0 p.d) p.os) → Q .normal a' w') l a) :
    wpAny P .any (o0 :: o1 :: o2 :: o3 :: l).toArray Q fuel listed a w0 := by
  subst hf
  refine wpAny_of_quiet (C := fun w' => ∃ p : Regrown, w' = grow (redrawn w0 p.d) p.os) (Q := fun a' => ∀ w', (∃ p : Regrown, w' = grow (redrawn w0 p.d) p.os) → Q .normal a' w') (fun _ w' hw' h => h w' hw') _ _ _ _ ⟨⟨w0.drawn, #[]⟩, by rw [grow_empty]; rfl⟩ ?_
  exact wpAnyQ_lex hs l 4 listed a (fun j => by simp [Nat.add_comm 4 j]) hB h
theorem quietB {f : FuncId} {args : Array Value} {w1 : World} {v : Value} (h : ∀ W, Below w1.heap.size w1 W → Calls Tryz.prog f args W fun e w' => e = .returned v ∧ Below W.heap.size W w') (d : Nat) (os : Array Obj) :
    Calls Tryz.prog f args (grow (redrawn w1 d) os) fun e w'' => e = .returned v ∧ ∃ p : Regrown, w'' = grow (redrawn w1 p.d) p.os := Calls.regrown_of (h _ (below_regrown w1 d os))
theorem Sl.madeC {W : World} {g : Nat} {c : C7} {T : TypeId} (hg : g = W.heap.size) : Sl (W.alloc (.cells #[.int .i64 c.i, .int .i64 c.k, .int .i64 c.s, .int .i64 c.t, .int .i64 c.d, .int .i64 c.p, .int .i64 c.q] T)) (.slice (Option.some ⟨g, 0, none⟩) 1 1) [c] := by
  subst hg
  refine ⟨W.heap.size, 0, 1, _, rfl, (fun e => by cases e), fun _ => rfl, fun j d hd f v hv => ?_, fun _ => by simp⟩
  cases j with
  | succ j => cases hd
  | zero =>
    cases (show some c = some d from hd)
    rw [Nat.zero_add, Nat.zero_mul, Nat.zero_add, World.cell?_alloc_new]
    match f, hv with
    | 0, hv => exact hv
    | 1, hv => exact hv
    | 2, hv => exact hv
    | 3, hv => exact hv
    | 4, hv => exact hv
    | 5, hv => exact hv
    | 6, hv => exact hv
    | _ + 7, hv => cases hv
end Go.Proofs.YtlehcaacfgocaaaGreat
