/- Entries by value, the document's: Vote, Accept. -/
import Derived.Test.YtmndjdaiailgmaaCAcc
namespace Go.Proofs.Ytmndjdaiailgmaa
set_option linter.unusedVariables false
open Go.RowKit
open Go.Lib (hid)

set_option maxHeartbeats 1600000 in
set_option maxRecDepth 100000 in
theorem rVote {e : Ev} {t : Int} {p : Sv} {f l : List C7} {w : World} (hv : Sl w e.fp.v f) (hp : Sl w p.v l) (lv : f.length ≤ 1024) (ll : l.length ≤ 1024) :
    Calls Try.prog 31 #[.agg e.arr, .agg #[.int .i64 t, p.v]] w fun x w' => x = .returned (.tuple #[.agg (votE e t p (fullB t l) (decide (e.ft = t) && sameB f l) (noneB e.ft f)).1.arr, .int .i64 (votE e t p (fullB t l) (decide (e.ft = t) && sameB f l) (noneB e.ft f)).2]) ∧ Below w.heap.size w w' := by
  obtain ⟨b1, hb1⟩ : ∃ b, b = fullB t l := ⟨_, rfl⟩
  obtain ⟨b2, hb2⟩ : ∃ b, b = (decide (e.ft = t) && sameB f l) := ⟨_, rfl⟩
  obtain ⟨b3, hb3⟩ : ∃ b, b = noneB e.ft f := ⟨_, rfl⟩
  have hF := fun (W : World) (hB : Below w.heap.size w W) => rFull t (hp.on hB) ll
  have hS := fun (W : World) (hB : Below w.heap.size w W) => rSameVG e.ft t (hv.on hB) (hp.on hB) (by omega) (by omega)
  have hn : e.fp.n = f.length := by
    obtain ⟨_, _, cap, a, hv', _⟩ := id hv
    injection hv' with h1 h2 h3
  have hN := fun (W : World) => rNone (a := e.fp.a) (cap := e.fp.c) (w := W) e.ft hn
  have hR := fun (W : World) => rReserve e t W
  obtain ⟨r1, hr1⟩ : ∃ x : Ev, x = (resE e t).1 := ⟨_, rfl⟩
  obtain ⟨r2, hr2⟩ : ∃ x : Int, x = (resE e t).2 := ⟨_, rfl⟩
  rw [← hr1, ← hr2] at hR
  have HR := hid hr1
  rw [← hb1] at hF
  rw [← hb2] at hS
  simp only [← hb3] at hN
  rw [← hb1, ← hb2, ← hb3]
  clear hb1 hb2 hb3 hv hp hn hr1 hr2
  have HX : Hid (Ob (((w.alloc (.cells e.arr 36)).alloc (boxV t p.v)).alloc zeroE) (w.heap.size) 36 e) := hid (laid3_0 w (.cells e.arr 36) (boxV t p.v) zeroE)
  have HY : Hid ((((w.alloc (.cells e.arr 36)).alloc (boxV t p.v)).alloc zeroE).heap[w.heap.size + 1]? = some (boxV t p.v)) := hid (laid3_1 w (.cells e.arr 36) (boxV t p.v) zeroE)
  have HZ : Hid (Ob (((w.alloc (.cells e.arr 36)).alloc (boxV t p.v)).alloc zeroE) (w.heap.size + 2) 36 zE) := hid (laid3_2 w (.cells e.arr 36) (boxV t p.v) zeroE)
  have HW : Hid (Below w.heap.size w (((w.alloc (.cells e.arr 36)).alloc (boxV t p.v)).alloc zeroE)) := hid (laid3_b w (.cells e.arr 36) (boxV t p.v) zeroE)
  have tok : Hid (0 = 0) := hid rfl
  go_enter Try.func31, Try.ntmps31
  go_wp2_with (first
    | (clear tok; (with_reducible refine opaqueW (((w.alloc (.cells e.arr 36)).alloc (boxV t p.v)).alloc zeroE) ?_); intro W0 hW; rw [← hW] at HX HY HZ HW; clear hW; have kY0 : W0.cell? ⟨w.heap.size + 1, 0, none⟩ = some (.int .i64 t) := (cellAt' HY.out 0).trans rfl; have kY1 : W0.cell? ⟨w.heap.size + 1, 1, none⟩ = some (.slice p.a p.n p.c) := (cellAt' HY.out 1).trans rfl)
    | fail)
  go_at_call 63
  refine (hF _ HW.out).mono ?_
  rintro x w1 ⟨rfl, hB⟩
  have GX : Hid (Ob w1 (w.heap.size) 36 e) := hid (heapB (HX.out) hB (Array.getElem?_eq_some_iff.1 (HX.out)).1)
  have GY : Hid (w1.heap[w.heap.size + 1]? = some (boxV t p.v)) := hid (heapB (HY.out) hB (Array.getElem?_eq_some_iff.1 (HY.out)).1)
  have GZ : Hid (Ob w1 (w.heap.size + 2) 36 zE) := hid (heapB (HZ.out) hB (Array.getElem?_eq_some_iff.1 (HZ.out)).1)
  have GW := hid ((HW.out).trans (hB.mono (HW.out).size))
  clear kY0 kY1
  clear hB HX HY HZ HW
  have HX := GX; clear GX
  have HY := GY; clear GY
  have HZ := GZ; clear GZ
  have HW := GW; clear GW
  have kX10 : w1.cell? ⟨w.heap.size, 10, none⟩ = some (.int .i64 e.ft) := (HX.out).cell (j := 10) rfl
  have kX11 : w1.cell? ⟨w.heap.size, 11, none⟩ = some (.slice e.fp.a e.fp.n e.fp.c) := (HX.out).cell (j := 11) rfl
  have kY0 : w1.cell? ⟨w.heap.size + 1, 0, none⟩ = some (.int .i64 t) := (cellAt' HY.out 0).trans rfl
  have kY1 : w1.cell? ⟨w.heap.size + 1, 1, none⟩ = some (.slice p.a p.n p.c) := (cellAt' HY.out 1).trans rfl
  rcases b1 with _ | _
  · have HE := hid (show votE e t p false b2 b3 = (e, 1) from rfl)
    go_wp2_with (first
      | ((with_reducible refine loadR (x := ?lx1) (b := ?lb1) (T := 36) e ?lg1 ?lo1 ?lxx1 ?lc1 ?lh1); (case lg1 => rfl); (case lo1 => rfl); (case lxx1 => rfl); (case lc1 => exact HX.out))
      | ((with_reducible refine storeR (x := ?sx2) (y := ?sy2) (b := ?sb2) (T := 36) e ?sg2 ?so2 ?sxx2 ?syy2 ?sc2 ?sh2); (case sg2 => rfl); (case so2 => rfl); (case sxx2 => rfl); (case syy2 => rfl); (case sc2 => exact Ob.room HZ.out); intro W9 hO hU; have GZ := hid hO; have GX : Hid (Ob W9 (w.heap.size) 36 e) := hid (hU.ob (HX.out) (by omega)); have GY : Hid (W9.heap[w.heap.size + 1]? = some (boxV t p.v)) := hid (hU.ob (HY.out) (by omega)); have GW := hid ((HW.out).trans (hU.below _ (by first | exact Nat.le_refl _ | omega))); clear hO hU; clear kX10 kX11 kY0 kY1; clear HX HY HZ HW; have HX := GX; clear GX; have HY := GY; clear GY; have HZ := GZ; clear GZ; have HW := GW; clear GW))
    refine bodyPost_ret (ret_cell_tmp rfl rfl rfl (HZ.out).range Try.underlying36 rfl (infoE e)) rfl ⟨by rw [HE.out]; rfl, HW.out⟩
  · skip
    go_wp2_with fail
    go_at_call 36
    refine (hS _ HW.out).mono ?_
    rintro x w2 ⟨rfl, hB⟩
    have GX : Hid (Ob w2 (w.heap.size) 36 e) := hid (heapB (HX.out) hB (Array.getElem?_eq_some_iff.1 (HX.out)).1)
    have GY : Hid (w2.heap[w.heap.size + 1]? = some (boxV t p.v)) := hid (heapB (HY.out) hB (Array.getElem?_eq_some_iff.1 (HY.out)).1)
    have GZ : Hid (Ob w2 (w.heap.size + 2) 36 zE) := hid (heapB (HZ.out) hB (Array.getElem?_eq_some_iff.1 (HZ.out)).1)
    have GW := hid ((HW.out).trans (hB.mono (HW.out).size))
    clear kX10 kX11 kY0 kY1
    clear hB HX HY HZ HW
    have HX := GX; clear GX
    have HY := GY; clear GY
    have HZ := GZ; clear GZ
    have HW := GW; clear GW
    have kX10 : w2.cell? ⟨w.heap.size, 10, none⟩ = some (.int .i64 e.ft) := (HX.out).cell (j := 10) rfl
    have kX11 : w2.cell? ⟨w.heap.size, 11, none⟩ = some (.slice e.fp.a e.fp.n e.fp.c) := (HX.out).cell (j := 11) rfl
    have kY0 : w2.cell? ⟨w.heap.size + 1, 0, none⟩ = some (.int .i64 t) := (cellAt' HY.out 0).trans rfl
    have kY1 : w2.cell? ⟨w.heap.size + 1, 1, none⟩ = some (.slice p.a p.n p.c) := (cellAt' HY.out 1).trans rfl
    rcases b2 with _ | _
    · skip
      go_wp2_with fail
      go_at_call 64
      refine (hN _).mono ?_
      rintro x w3 ⟨rfl, hB⟩
      have GX : Hid (Ob w3 (w.heap.size) 36 e) := hid (heapB (HX.out) hB (Array.getElem?_eq_some_iff.1 (HX.out)).1)
      have GY : Hid (w3.heap[w.heap.size + 1]? = some (boxV t p.v)) := hid (heapB (HY.out) hB (Array.getElem?_eq_some_iff.1 (HY.out)).1)
      have GZ : Hid (Ob w3 (w.heap.size + 2) 36 zE) := hid (heapB (HZ.out) hB (Array.getElem?_eq_some_iff.1 (HZ.out)).1)
      have GW := hid ((HW.out).trans (hB.mono (HW.out).size))
      clear kX10 kX11 kY0 kY1
      clear hB HX HY HZ HW
      have HX := GX; clear GX
      have HY := GY; clear GY
      have HZ := GZ; clear GZ
      have HW := GW; clear GW
      have kY0 : w3.cell? ⟨w.heap.size + 1, 0, none⟩ = some (.int .i64 t) := (cellAt' HY.out 0).trans rfl
      have kY1 : w3.cell? ⟨w.heap.size + 1, 1, none⟩ = some (.slice p.a p.n p.c) := (cellAt' HY.out 1).trans rfl
      rcases b3 with _ | _
      · have HE := hid (show votE e t p true false false = (e, 6) from rfl)
        go_wp2_with (first
          | ((with_reducible refine loadR (x := ?lx3) (b := ?lb3) (T := 36) e ?lg3 ?lo3 ?lxx3 ?lc3 ?lh3); (case lg3 => rfl); (case lo3 => rfl); (case lxx3 => rfl); (case lc3 => exact HX.out))
          | ((with_reducible refine storeR (x := ?sx4) (y := ?sy4) (b := ?sb4) (T := 36) e ?sg4 ?so4 ?sxx4 ?syy4 ?sc4 ?sh4); (case sg4 => rfl); (case so4 => rfl); (case sxx4 => rfl); (case syy4 => rfl); (case sc4 => exact Ob.room HZ.out); intro W9 hO hU; have GZ := hid hO; have GX : Hid (Ob W9 (w.heap.size) 36 e) := hid (hU.ob (HX.out) (by omega)); have GY : Hid (W9.heap[w.heap.size + 1]? = some (boxV t p.v)) := hid (hU.ob (HY.out) (by omega)); have GW := hid ((HW.out).trans (hU.below _ (by first | exact Nat.le_refl _ | omega))); clear hO hU; clear kY0 kY1; clear HX HY HZ HW; have HX := GX; clear GX; have HY := GY; clear GY; have HZ := GZ; clear GZ; have HW := GW; clear GW))
        refine bodyPost_ret (ret_cell_tmp rfl rfl rfl (HZ.out).range Try.underlying36 rfl (infoE e)) rfl ⟨by rw [HE.out]; rfl, HW.out⟩
      · skip
        go_wp2_with (first
          | ((with_reducible refine loadR (x := ?lx5) (b := ?lb5) (T := 36) e ?lg5 ?lo5 ?lxx5 ?lc5 ?lh5); (case lg5 => rfl); (case lo5 => rfl); (case lxx5 => rfl); (case lc5 => exact HX.out))
          | fail)
        go_at_call 30
        refine (hR _).mono ?_
        rintro x w4 ⟨rfl, hB⟩
        have GX : Hid (Ob w4 (w.heap.size) 36 e) := hid (heapB (HX.out) hB (Array.getElem?_eq_some_iff.1 (HX.out)).1)
        have GY : Hid (w4.heap[w.heap.size + 1]? = some (boxV t p.v)) := hid (heapB (HY.out) hB (Array.getElem?_eq_some_iff.1 (HY.out)).1)
        have GZ : Hid (Ob w4 (w.heap.size + 2) 36 zE) := hid (heapB (HZ.out) hB (Array.getElem?_eq_some_iff.1 (HZ.out)).1)
        have GW := hid ((HW.out).trans (hB.mono (HW.out).size))
        clear kY0 kY1
        clear hB HX HY HZ HW
        have HX := GX; clear GX
        have HY := GY; clear GY
        have HZ := GZ; clear GZ
        have HW := GW; clear GW
        have kY0 : w4.cell? ⟨w.heap.size + 1, 0, none⟩ = some (.int .i64 t) := (cellAt' HY.out 0).trans rfl
        have kY1 : w4.cell? ⟨w.heap.size + 1, 1, none⟩ = some (.slice p.a p.n p.c) := (cellAt' HY.out 1).trans rfl
        have ltOX : w.heap.size < w4.heap.size := (Array.getElem?_eq_some_iff.1 (HX.out)).1
        have ltOY : w.heap.size + 1 < w4.heap.size := (Array.getElem?_eq_some_iff.1 (HY.out)).1
        have ltOZ : w.heap.size + 2 < w4.heap.size := (Array.getElem?_eq_some_iff.1 (HZ.out)).1
        have ltwO : w.heap.size ≤ w4.heap.size := (HW.out).size
        have RO : Room (w4.alloc zeroE) w4.heap.size 36 := ⟨_, heap_alloc_new w4 zeroE, rfl⟩
        go_wp2_with (first
          | ((with_reducible refine uponStore (e := r1) (RO) ?_); intro w5 hO hU; have GO := hid hO; have GX : Hid (Ob w5 (w.heap.size) 36 e) := hid (hU.ob ((obAlloc HX.out)) (by omega)); have GY : Hid (w5.heap[w.heap.size + 1]? = some (boxV t p.v)) := hid (hU.ob ((obAlloc HY.out)) (by omega)); have GZ : Hid (Ob w5 (w.heap.size + 2) 36 zE) := hid (hU.ob ((obAlloc HZ.out)) (by omega)); have GW := hid ((((HW.out).alloc (HW.out).size _)).trans (hU.below _ (by first | exact Nat.le_refl _ | omega))); clear hO hU; clear kY0 kY1; clear HX HY HZ HW; have HX := GX; clear GX; have HY := GY; clear GY; have HZ := GZ; clear GZ; have HO := GO; clear GO; have HW := GW; clear GW; have kY0 : w5.cell? ⟨w.heap.size + 1, 0, none⟩ = some (.int .i64 t) := (cellAt' HY.out 0).trans rfl; have kY1 : w5.cell? ⟨w.heap.size + 1, 1, none⟩ = some (.slice p.a p.n p.c) := (cellAt' HY.out 1).trans rfl; have kO10 : w5.cell? ⟨w4.heap.size, 10, none⟩ = some (.int .i64 r1.ft) := (HO.out).cell (j := 10) rfl; have zO10 : w5.frozen? ⟨w4.heap.size, 10, none⟩ = false := (HO.out).free 10; have kO11 : w5.cell? ⟨w4.heap.size, 11, none⟩ = some (.slice r1.fp.a r1.fp.n r1.fp.c) := (HO.out).cell (j := 11) rfl; have zO11 : w5.frozen? ⟨w4.heap.size, 11, none⟩ = false := (HO.out).free 11)
          | ((with_reducible refine loadR (x := ?lx6) (b := ?lb6) (T := 36) ({ r1 with ft := t, fp := p } : Ev) ?lg6 ?lo6 ?lxx6 ?lc6 ?lh6); (case lg6 => rfl); (case lo6 => rfl); (case lxx6 => rfl); (case lc6 => exact ((((HO.out).set (j := 10) (v := .int .i64 t) (e' := ({ r1 with ft := t } : Ev)) rfl)).set (j := 11) (v := .slice p.a p.n p.c) (e' := ({ r1 with ft := t, fp := p } : Ev)) rfl)))
          | ((with_reducible refine storeR (x := ?sx7) (y := ?sy7) (b := ?sb7) (T := 36) ({ r1 with ft := t, fp := p } : Ev) ?sg7 ?so7 ?sxx7 ?syy7 ?sc7 ?sh7); (case sg7 => rfl); (case so7 => rfl); (case sxx7 => rfl); (case syy7 => rfl); (case sc7 => exact Ob.room (setOther (q := w4.heap.size) (j := 11) (v := .slice p.a p.n p.c) ((setOther (q := w4.heap.size) (j := 10) (v := .int .i64 t) (HZ.out) (by omega))) (by omega))); intro W9 hO hU; have GZ := hid hO; have GX : Hid (Ob W9 (w.heap.size) 36 e) := hid (hU.ob ((setOther (q := w4.heap.size) (j := 11) (v := .slice p.a p.n p.c) ((setOther (q := w4.heap.size) (j := 10) (v := .int .i64 t) (HX.out) (by omega))) (by omega))) (by omega)); have GY : Hid (W9.heap[w.heap.size + 1]? = some (boxV t p.v)) := hid (hU.ob ((setOther (q := w4.heap.size) (j := 11) (v := .slice p.a p.n p.c) ((setOther (q := w4.heap.size) (j := 10) (v := .int .i64 t) (HY.out) (by omega))) (by omega))) (by omega)); have GO : Hid (Ob W9 (w4.heap.size) 36 ({ r1 with ft := t, fp := p } : Ev)) := hid (hU.ob (((((HO.out).set (j := 10) (v := .int .i64 t) (e' := ({ r1 with ft := t } : Ev)) rfl)).set (j := 11) (v := .slice p.a p.n p.c) (e' := ({ r1 with ft := t, fp := p } : Ev)) rfl)) (by omega)); have GW := hid ((((((HW.out).setCell (p := ⟨w4.heap.size, 10, none⟩) (by first | exact Nat.le_refl _ | (show w.heap.size ≤ w4.heap.size; omega)) (.int .i64 t))).setCell (p := ⟨w4.heap.size, 11, none⟩) (by first | exact Nat.le_refl _ | (show w.heap.size ≤ w4.heap.size; omega)) (.slice p.a p.n p.c))).trans (hU.below _ (by first | exact Nat.le_refl _ | omega))); clear hO hU; clear kY0 kY1 kO10 zO10 kO11 zO11; clear HX HY HZ HO HW; have HX := GX; clear GX; have HY := GY; clear GY; have HZ := GZ; clear GZ; have HO := GO; clear GO; have HW := GW; clear GW))
        have HE := hid (show votE e t p true false true = ({ r1 with ft := t, fp := p }, 0) by rw [HR.out]; rfl)
        refine bodyPost_ret (ret_cell_tmp rfl rfl rfl (HZ.out).range Try.underlying36 rfl (infoE ({ r1 with ft := t, fp := p } : Ev))) rfl ⟨by rw [HE.out]; rfl, HW.out⟩
    · have HE := hid (show votE e t p true true b3 = (e, 0) from rfl)
      go_wp2_with (first
        | ((with_reducible refine loadR (x := ?lx8) (b := ?lb8) (T := 36) e ?lg8 ?lo8 ?lxx8 ?lc8 ?lh8); (case lg8 => rfl); (case lo8 => rfl); (case lxx8 => rfl); (case lc8 => exact HX.out))
        | ((with_reducible refine storeR (x := ?sx9) (y := ?sy9) (b := ?sb9) (T := 36) e ?sg9 ?so9 ?sxx9 ?syy9 ?sc9 ?sh9); (case sg9 => rfl); (case so9 => rfl); (case sxx9 => rfl); (case syy9 => rfl); (case sc9 => exact Ob.room HZ.out); intro W9 hO hU; have GZ := hid hO; have GX : Hid (Ob W9 (w.heap.size) 36 e) := hid (hU.ob (HX.out) (by omega)); have GY : Hid (W9.heap[w.heap.size + 1]? = some (boxV t p.v)) := hid (hU.ob (HY.out) (by omega)); have GW := hid ((HW.out).trans (hU.below _ (by first | exact Nat.le_refl _ | omega))); clear hO hU; clear kX10 kX11 kY0 kY1; clear HX HY HZ HW; have HX := GX; clear GX; have HY := GY; clear GY; have HZ := GZ; clear GZ; have HW := GW; clear GW))
      refine bodyPost_ret (ret_cell_tmp rfl rfl rfl (HZ.out).range Try.underlying36 rfl (infoE e)) rfl ⟨by rw [HE.out]; rfl, HW.out⟩
def accR (e : Ev) (b t : Int) (p : Sv) (full : Bool) : Ev × Int := if full = false ∨ withinB b 1048576 = false ∨ b < 1 then (e, 1) else if b < e.pr then (e, 11) else ({ (resE e t).1 with pr := b, ab := b, xt := t, xp := p }, 0)

set_option maxHeartbeats 1600000 in
set_option maxRecDepth 100000 in
theorem rAccept {e : Ev} {b t : Int} {p : Sv} {l : List C7} {w : World} (hp : Sl w p.v l) (ll : l.length ≤ 1024) :
    Calls Try.prog 32 #[.agg e.arr, .int .i64 b, .agg #[.int .i64 t, p.v]] w fun x w' => x = .returned (.tuple #[.agg (accR e b t p (fullB t l)).1.arr, .int .i64 (accR e b t p (fullB t l)).2]) ∧ Below w.heap.size w w' := by
  obtain ⟨b1, hb1⟩ : ∃ b, b = fullB t l := ⟨_, rfl⟩
  obtain ⟨b2, hb2⟩ : ∃ x, x = withinB b 1048576 := ⟨_, rfl⟩
  have hF := fun (W : World) (hB : Below w.heap.size w W) => rFull t (hp.on hB) ll
  have hb := fun W => rBallot b W
  have hR := fun (W : World) => rReserve e t W
  obtain ⟨r1, hr1⟩ : ∃ x : Ev, x = (resE e t).1 := ⟨_, rfl⟩
  obtain ⟨r2, hr2⟩ : ∃ x : Int, x = (resE e t).2 := ⟨_, rfl⟩
  rw [← hr1, ← hr2] at hR
  have HR := hid hr1
  rw [← hb1] at hF
  rw [← hb2] at hb
  rw [← hb1]
  have HB2 := hid hb2
  clear hb1 hb2 hp hr1 hr2
  have HX : Hid (Ob (((w.alloc (.cells e.arr 36)).alloc (boxV t p.v)).alloc zeroE) (w.heap.size) 36 e) := hid (laid3_0 w (.cells e.arr 36) (boxV t p.v) zeroE)
  have HY : Hid ((((w.alloc (.cells e.arr 36)).alloc (boxV t p.v)).alloc zeroE).heap[w.heap.size + 1]? = some (boxV t p.v)) := hid (laid3_1 w (.cells e.arr 36) (boxV t p.v) zeroE)
  have HZ : Hid (Ob (((w.alloc (.cells e.arr 36)).alloc (boxV t p.v)).alloc zeroE) (w.heap.size + 2) 36 zE) := hid (laid3_2 w (.cells e.arr 36) (boxV t p.v) zeroE)
  have HW : Hid (Below w.heap.size w (((w.alloc (.cells e.arr 36)).alloc (boxV t p.v)).alloc zeroE)) := hid (laid3_b w (.cells e.arr 36) (boxV t p.v) zeroE)
  have tok : Hid (0 = 0) := hid rfl
  go_enter Try.func32, Try.ntmps32
  go_wp2_with (first
    | (clear tok; (with_reducible refine opaqueW (((w.alloc (.cells e.arr 36)).alloc (boxV t p.v)).alloc zeroE) ?_); intro W0 hW; rw [← hW] at HX HY HZ HW; clear hW; have kY0 : W0.cell? ⟨w.heap.size + 1, 0, none⟩ = some (.int .i64 t) := (cellAt' HY.out 0).trans rfl; have kY1 : W0.cell? ⟨w.heap.size + 1, 1, none⟩ = some (.slice p.a p.n p.c) := (cellAt' HY.out 1).trans rfl)
    | fail)
  go_at_call 63
  refine (hF _ HW.out).mono ?_
  rintro x w1 ⟨rfl, hB⟩
  have GX : Hid (Ob w1 (w.heap.size) 36 e) := hid (heapB (HX.out) hB (Array.getElem?_eq_some_iff.1 (HX.out)).1)
  have GY : Hid (w1.heap[w.heap.size + 1]? = some (boxV t p.v)) := hid (heapB (HY.out) hB (Array.getElem?_eq_some_iff.1 (HY.out)).1)
  have GZ : Hid (Ob w1 (w.heap.size + 2) 36 zE) := hid (heapB (HZ.out) hB (Array.getElem?_eq_some_iff.1 (HZ.out)).1)
  have GW := hid ((HW.out).trans (hB.mono (HW.out).size))
  clear kY0 kY1
  clear hB HX HY HZ HW
  have HX := GX; clear GX
  have HY := GY; clear GY
  have HZ := GZ; clear GZ
  have HW := GW; clear GW
  have kX7 : w1.cell? ⟨w.heap.size, 7, none⟩ = some (.int .i64 e.pr) := (HX.out).cell (j := 7) rfl
  have kY0 : w1.cell? ⟨w.heap.size + 1, 0, none⟩ = some (.int .i64 t) := (cellAt' HY.out 0).trans rfl
  have kY1 : w1.cell? ⟨w.heap.size + 1, 1, none⟩ = some (.slice p.a p.n p.c) := (cellAt' HY.out 1).trans rfl
  go_wp2_with fail
  go_at_call 45
  refine (hb _).mono ?_
  rintro x w' ⟨rfl, rfl⟩
  rcases b1 with _ | _
  · have HE := hid (show accR e b t p false = (e, 1) from if_pos (.inl rfl))
    go_wp2_with (first
      | ((with_reducible refine loadR (x := ?lx10) (b := ?lb10) (T := 36) e ?lg10 ?lo10 ?lxx10 ?lc10 ?lh10); (case lg10 => rfl); (case lo10 => rfl); (case lxx10 => rfl); (case lc10 => exact HX.out))
      | ((with_reducible refine storeR (x := ?sx11) (y := ?sy11) (b := ?sb11) (T := 36) e ?sg11 ?so11 ?sxx11 ?syy11 ?sc11 ?sh11); (case sg11 => rfl); (case so11 => rfl); (case sxx11 => rfl); (case syy11 => rfl); (case sc11 => exact Ob.room HZ.out); intro W9 hO hU; have GZ := hid hO; have GX : Hid (Ob W9 (w.heap.size) 36 e) := hid (hU.ob (HX.out) (by omega)); have GY : Hid (W9.heap[w.heap.size + 1]? = some (boxV t p.v)) := hid (hU.ob (HY.out) (by omega)); have GW := hid ((HW.out).trans (hU.below _ (by first | exact Nat.le_refl _ | omega))); clear hO hU; clear kX7 kY0 kY1; clear HX HY HZ HW; have HX := GX; clear GX; have HY := GY; clear GY; have HZ := GZ; clear GZ; have HW := GW; clear GW))
    refine bodyPost_ret (ret_cell_tmp rfl rfl rfl (HZ.out).range Try.underlying36 rfl (infoE e)) rfl ⟨by rw [HE.out]; rfl, HW.out⟩
  · rcases b2 with _ | _
    · have HE := hid (show accR e b t p true = (e, 1) from if_pos (.inr (.inl HB2.out.symm)))
      go_wp2_with (first
        | ((with_reducible refine loadR (x := ?lx12) (b := ?lb12) (T := 36) e ?lg12 ?lo12 ?lxx12 ?lc12 ?lh12); (case lg12 => rfl); (case lo12 => rfl); (case lxx12 => rfl); (case lc12 => exact HX.out))
        | ((with_reducible refine storeR (x := ?sx13) (y := ?sy13) (b := ?sb13) (T := 36) e ?sg13 ?so13 ?sxx13 ?syy13 ?sc13 ?sh13); (case sg13 => rfl); (case so13 => rfl); (case sxx13 => rfl); (case syy13 => rfl); (case sc13 => exact Ob.room HZ.out); intro W9 hO hU; have GZ := hid hO; have GX : Hid (Ob W9 (w.heap.size) 36 e) := hid (hU.ob (HX.out) (by omega)); have GY : Hid (W9.heap[w.heap.size + 1]? = some (boxV t p.v)) := hid (hU.ob (HY.out) (by omega)); have GW := hid ((HW.out).trans (hU.below _ (by first | exact Nat.le_refl _ | omega))); clear hO hU; clear kX7 kY0 kY1; clear HX HY HZ HW; have HX := GX; clear GX; have HY := GY; clear GY; have HZ := GZ; clear GZ; have HW := GW; clear GW))
      refine bodyPost_ret (ret_cell_tmp rfl rfl rfl (HZ.out).range Try.underlying36 rfl (infoE e)) rfl ⟨by rw [HE.out]; rfl, HW.out⟩
    · by_cases h0 : b < 1
      · have HE := hid (show accR e b t p true = (e, 1) from if_pos (.inr (.inr h0)))
        go_wp2_with (first
          | ((with_reducible refine loadR (x := ?lx14) (b := ?lb14) (T := 36) e ?lg14 ?lo14 ?lxx14 ?lc14 ?lh14); (case lg14 => rfl); (case lo14 => rfl); (case lxx14 => rfl); (case lc14 => exact HX.out))
          | ((with_reducible refine storeR (x := ?sx15) (y := ?sy15) (b := ?sb15) (T := 36) e ?sg15 ?so15 ?sxx15 ?syy15 ?sc15 ?sh15); (case sg15 => rfl); (case so15 => rfl); (case sxx15 => rfl); (case syy15 => rfl); (case sc15 => exact Ob.room HZ.out); intro W9 hO hU; have GZ := hid hO; have GX : Hid (Ob W9 (w.heap.size) 36 e) := hid (hU.ob (HX.out) (by omega)); have GY : Hid (W9.heap[w.heap.size + 1]? = some (boxV t p.v)) := hid (hU.ob (HY.out) (by omega)); have GW := hid ((HW.out).trans (hU.below _ (by first | exact Nat.le_refl _ | omega))); clear hO hU; clear kX7 kY0 kY1; clear HX HY HZ HW; have HX := GX; clear GX; have HY := GY; clear GY; have HZ := GZ; clear GZ; have HW := GW; clear GW))
        refine bodyPost_ret (ret_cell_tmp rfl rfl rfl (HZ.out).range Try.underlying36 rfl (infoE e)) rfl ⟨by rw [HE.out]; rfl, HW.out⟩
      · by_cases h1 : b < e.pr
        · have HE := hid (show accR e b t p true = (e, 11) by unfold accR; rw [if_neg (by rw [← HB2.out]; simp [h0]), if_pos h1])
          go_wp2_with (first
            | ((with_reducible refine loadR (x := ?lx16) (b := ?lb16) (T := 36) e ?lg16 ?lo16 ?lxx16 ?lc16 ?lh16); (case lg16 => rfl); (case lo16 => rfl); (case lxx16 => rfl); (case lc16 => exact HX.out))
            | ((with_reducible refine storeR (x := ?sx17) (y := ?sy17) (b := ?sb17) (T := 36) e ?sg17 ?so17 ?sxx17 ?syy17 ?sc17 ?sh17); (case sg17 => rfl); (case so17 => rfl); (case sxx17 => rfl); (case syy17 => rfl); (case sc17 => exact Ob.room HZ.out); intro W9 hO hU; have GZ := hid hO; have GX : Hid (Ob W9 (w.heap.size) 36 e) := hid (hU.ob (HX.out) (by omega)); have GY : Hid (W9.heap[w.heap.size + 1]? = some (boxV t p.v)) := hid (hU.ob (HY.out) (by omega)); have GW := hid ((HW.out).trans (hU.below _ (by first | exact Nat.le_refl _ | omega))); clear hO hU; clear kX7 kY0 kY1; clear HX HY HZ HW; have HX := GX; clear GX; have HY := GY; clear GY; have HZ := GZ; clear GZ; have HW := GW; clear GW))
          refine bodyPost_ret (ret_cell_tmp rfl rfl rfl (HZ.out).range Try.underlying36 rfl (infoE e)) rfl ⟨by rw [HE.out]; rfl, HW.out⟩
        · have HE := hid (show accR e b t p true = ({ r1 with pr := b, ab := b, xt := t, xp := p }, 0) by unfold accR; rw [if_neg (by rw [← HB2.out]; simp [h0]), if_neg h1, HR.out])
          go_wp2_with (first
            | ((with_reducible refine loadR (x := ?lx18) (b := ?lb18) (T := 36) e ?lg18 ?lo18 ?lxx18 ?lc18 ?lh18); (case lg18 => rfl); (case lo18 => rfl); (case lxx18 => rfl); (case lc18 => exact HX.out))
            | fail)
          go_at_call 30
          refine (hR _).mono ?_
          rintro x w4 ⟨rfl, hB⟩
          have GX : Hid (Ob w4 (w.heap.size) 36 e) := hid (heapB (HX.out) hB (Array.getElem?_eq_some_iff.1 (HX.out)).1)
          have GY : Hid (w4.heap[w.heap.size + 1]? = some (boxV t p.v)) := hid (heapB (HY.out) hB (Array.getElem?_eq_some_iff.1 (HY.out)).1)
          have GZ : Hid (Ob w4 (w.heap.size + 2) 36 zE) := hid (heapB (HZ.out) hB (Array.getElem?_eq_some_iff.1 (HZ.out)).1)
          have GW := hid ((HW.out).trans (hB.mono (HW.out).size))
          clear kX7 kY0 kY1
          clear hB HX HY HZ HW
          have HX := GX; clear GX
          have HY := GY; clear GY
          have HZ := GZ; clear GZ
          have HW := GW; clear GW
          have kY0 : w4.cell? ⟨w.heap.size + 1, 0, none⟩ = some (.int .i64 t) := (cellAt' HY.out 0).trans rfl
          have kY1 : w4.cell? ⟨w.heap.size + 1, 1, none⟩ = some (.slice p.a p.n p.c) := (cellAt' HY.out 1).trans rfl
          have ltOX : w.heap.size < w4.heap.size := (Array.getElem?_eq_some_iff.1 (HX.out)).1
          have ltOY : w.heap.size + 1 < w4.heap.size := (Array.getElem?_eq_some_iff.1 (HY.out)).1
          have ltOZ : w.heap.size + 2 < w4.heap.size := (Array.getElem?_eq_some_iff.1 (HZ.out)).1
          have ltwO : w.heap.size ≤ w4.heap.size := (HW.out).size
          have RO : Room (w4.alloc zeroE) w4.heap.size 36 := ⟨_, heap_alloc_new w4 zeroE, rfl⟩
          go_wp2_with (first
            | ((with_reducible refine uponStore (e := r1) (RO) ?_); intro w5 hO hU; have GO := hid hO; have GX : Hid (Ob w5 (w.heap.size) 36 e) := hid (hU.ob ((obAlloc HX.out)) (by omega)); have GY : Hid (w5.heap[w.heap.size + 1]? = some (boxV t p.v)) := hid (hU.ob ((obAlloc HY.out)) (by omega)); have GZ : Hid (Ob w5 (w.heap.size + 2) 36 zE) := hid (hU.ob ((obAlloc HZ.out)) (by omega)); have GW := hid ((((HW.out).alloc (HW.out).size _)).trans (hU.below _ (by first | exact Nat.le_refl _ | omega))); clear hO hU; clear kY0 kY1; clear HX HY HZ HW; have HX := GX; clear GX; have HY := GY; clear GY; have HZ := GZ; clear GZ; have HO := GO; clear GO; have HW := GW; clear GW; have kY0 : w5.cell? ⟨w.heap.size + 1, 0, none⟩ = some (.int .i64 t) := (cellAt' HY.out 0).trans rfl; have kY1 : w5.cell? ⟨w.heap.size + 1, 1, none⟩ = some (.slice p.a p.n p.c) := (cellAt' HY.out 1).trans rfl; have kO7 : w5.cell? ⟨w4.heap.size, 7, none⟩ = some (.int .i64 r1.pr) := (HO.out).cell (j := 7) rfl; have zO7 : w5.frozen? ⟨w4.heap.size, 7, none⟩ = false := (HO.out).free 7; have kO12 : w5.cell? ⟨w4.heap.size, 12, none⟩ = some (.int .i64 r1.ab) := (HO.out).cell (j := 12) rfl; have zO12 : w5.frozen? ⟨w4.heap.size, 12, none⟩ = false := (HO.out).free 12; have kO13 : w5.cell? ⟨w4.heap.size, 13, none⟩ = some (.int .i64 r1.xt) := (HO.out).cell (j := 13) rfl; have zO13 : w5.frozen? ⟨w4.heap.size, 13, none⟩ = false := (HO.out).free 13; have kO14 : w5.cell? ⟨w4.heap.size, 14, none⟩ = some (.slice r1.xp.a r1.xp.n r1.xp.c) := (HO.out).cell (j := 14) rfl; have zO14 : w5.frozen? ⟨w4.heap.size, 14, none⟩ = false := (HO.out).free 14)
            | ((with_reducible refine loadR (x := ?lx19) (b := ?lb19) (T := 36) ({ r1 with pr := b, ab := b, xt := t, xp := p } : Ev) ?lg19 ?lo19 ?lxx19 ?lc19 ?lh19); (case lg19 => rfl); (case lo19 => rfl); (case lxx19 => rfl); (case lc19 => exact ((((((((HO.out).set (j := 7) (v := .int .i64 b) (e' := ({ r1 with pr := b } : Ev)) rfl)).set (j := 12) (v := .int .i64 b) (e' := ({ r1 with pr := b, ab := b } : Ev)) rfl)).set (j := 13) (v := .int .i64 t) (e' := ({ r1 with pr := b, ab := b, xt := t } : Ev)) rfl)).set (j := 14) (v := .slice p.a p.n p.c) (e' := ({ r1 with pr := b, ab := b, xt := t, xp := p } : Ev)) rfl)))
            | ((with_reducible refine storeR (x := ?sx20) (y := ?sy20) (b := ?sb20) (T := 36) ({ r1 with pr := b, ab := b, xt := t, xp := p } : Ev) ?sg20 ?so20 ?sxx20 ?syy20 ?sc20 ?sh20); (case sg20 => rfl); (case so20 => rfl); (case sxx20 => rfl); (case syy20 => rfl); (case sc20 => exact Ob.room (setOther (q := w4.heap.size) (j := 14) (v := .slice p.a p.n p.c) ((setOther (q := w4.heap.size) (j := 13) (v := .int .i64 t) ((setOther (q := w4.heap.size) (j := 12) (v := .int .i64 b) ((setOther (q := w4.heap.size) (j := 7) (v := .int .i64 b) (HZ.out) (by omega))) (by omega))) (by omega))) (by omega))); intro W9 hO hU; have GZ := hid hO; have GX : Hid (Ob W9 (w.heap.size) 36 e) := hid (hU.ob ((setOther (q := w4.heap.size) (j := 14) (v := .slice p.a p.n p.c) ((setOther (q := w4.heap.size) (j := 13) (v := .int .i64 t) ((setOther (q := w4.heap.size) (j := 12) (v := .int .i64 b) ((setOther (q := w4.heap.size) (j := 7) (v := .int .i64 b) (HX.out) (by omega))) (by omega))) (by omega))) (by omega))) (by omega)); have GY : Hid (W9.heap[w.heap.size + 1]? = some (boxV t p.v)) := hid (hU.ob ((setOther (q := w4.heap.size) (j := 14) (v := .slice p.a p.n p.c) ((setOther (q := w4.heap.size) (j := 13) (v := .int .i64 t) ((setOther (q := w4.heap.size) (j := 12) (v := .int .i64 b) ((setOther (q := w4.heap.size) (j := 7) (v := .int .i64 b) (HY.out) (by omega))) (by omega))) (by omega))) (by omega))) (by omega)); have GO : Hid (Ob W9 (w4.heap.size) 36 ({ r1 with pr := b, ab := b, xt := t, xp := p } : Ev)) := hid (hU.ob (((((((((HO.out).set (j := 7) (v := .int .i64 b) (e' := ({ r1 with pr := b } : Ev)) rfl)).set (j := 12) (v := .int .i64 b) (e' := ({ r1 with pr := b, ab := b } : Ev)) rfl)).set (j := 13) (v := .int .i64 t) (e' := ({ r1 with pr := b, ab := b, xt := t } : Ev)) rfl)).set (j := 14) (v := .slice p.a p.n p.c) (e' := ({ r1 with pr := b, ab := b, xt := t, xp := p } : Ev)) rfl)) (by omega)); have GW := hid ((((((((((HW.out).setCell (p := ⟨w4.heap.size, 7, none⟩) (by first | exact Nat.le_refl _ | (show w.heap.size ≤ w4.heap.size; omega)) (.int .i64 b))).setCell (p := ⟨w4.heap.size, 12, none⟩) (by first | exact Nat.le_refl _ | (show w.heap.size ≤ w4.heap.size; omega)) (.int .i64 b))).setCell (p := ⟨w4.heap.size, 13, none⟩) (by first | exact Nat.le_refl _ | (show w.heap.size ≤ w4.heap.size; omega)) (.int .i64 t))).setCell (p := ⟨w4.heap.size, 14, none⟩) (by first | exact Nat.le_refl _ | (show w.heap.size ≤ w4.heap.size; omega)) (.slice p.a p.n p.c))).trans (hU.below _ (by first | exact Nat.le_refl _ | omega))); clear hO hU; clear kY0 kY1 kO7 zO7 kO12 zO12 kO13 zO13 kO14 zO14; clear HX HY HZ HO HW; have HX := GX; clear GX; have HY := GY; clear GY; have HZ := GZ; clear GZ; have HO := GO; clear GO; have HW := GW; clear GW))
          refine bodyPost_ret (ret_cell_tmp rfl rfl rfl (HZ.out).range Try.underlying36 rfl (infoE ({ r1 with pr := b, ab := b, xt := t, xp := p } : Ev))) rfl ⟨by rw [HE.out]; rfl, HW.out⟩
end Go.Proofs.Ytmndjdaiailgmaa
