import Derived.Test.YtlehcaacfgocaaaGreatG05
import Derived.Test.YtlehcaacfgocaaaGreatG02
namespace Go.Proofs.YtlehcaacfgocaaaGreat
set_option linter.unusedVariables false
open Go.RowKit
open Go.Lib (hid)
abbrev boxEc (w : World) (e : Ev) : World := (w.alloc (.cells e.arr 67)).alloc zeroEc
theorem boxEc_range (w : World) (e : Ev) : (boxEc w e).rangeAt w.heap.size 0 e.list := World.rangeAt_alloc (rangeNew w e _) _
theorem boxEc_there (w : World) (e : Ev) : (boxEc w e).there (w.heap.size + 1) 0 19 := by
  have := thereNew (w.alloc (.cells e.arr 67)) #[.int .i64 0, .int .i64 0, .int .i64 0, .int .i64 0, .int .i64 0, .int .i64 0, .int .i64 0, .int .i64 0, .int .i64 0, .int .i64 0, .int .i64 0, .slice none 0 0, .int .i64 0, .int .i64 0, .slice none 0 0, .bool false, .bool false, .int .i64 0, .slice none 0 0] 67 19 (by decide)
  rwa [World.size_alloc] at this
theorem boxEc_frozen (w : World) (e : Ev) (j : Nat) : (boxEc w e).frozen? ⟨w.heap.size, j, none⟩ = false := by
  have h : (boxEc w e).heap[w.heap.size]? = some (.cells e.arr 67) := (Below.heap_alloc _ _ _ (by simp)).trans (heap_alloc_new w _)
  exact frozenAt h j
theorem boxEc_below (w : World) (e : Ev) : Below w.heap.size w (boxEc w e) := ((Below.refl _ w).alloc (Nat.le_refl _) _).alloc (by simp) _
set_option maxHeartbeats 1600000 in
set_option maxRecDepth 100000 in
theorem cPromise (e : Ev) (b : Int) (w : World) : Calls Tryz.prog 112 #[.agg e.arr, .int .i64 b] w fun x w' => x = .returned (.tuple #[.agg (promE e b).1.arr, .int .i64 (promE e b).2]) ∧ Below w.heap.size w w' := by
  have hB := fun W => cBallot b W
  have hr := boxEc_range w e
  have ht := boxEc_there w e
  have c7 : (boxEc w e).cell? ⟨w.heap.size, 7, none⟩ = some (.int .i64 e.pr) := by have := hr 7 _ rfl; rwa [Nat.zero_add] at this
  have f7 := boxEc_frozen w e 7
  rcases hb : withinB b 1048576 with _ | _
  · rw [hb] at hB
    have HE := hid (show promE e b = (e, 1) by unfold promE; rw [hb]; rfl)
    clear hb
    go_enter Tryz.func112, Tryz.ntmps112
    go_wp2_with (first
      | (go_at_call 102; refine (hB _).mono ?_; rintro e w' ⟨rfl, rfl⟩)
      | (refine wpList_load_mid rfl 67 _ rfl _ _ rfl e.list _ hr Tryz.underlying67 rfl (infoEc e) ?_)
      | (refine wpList_store_mid rfl 67 _ _ rfl _ _ e.arr rfl rfl ht (infoEc' e) (Ev.one e) ?_))
    refine bodyPost_ret (ret_cell_tmp rfl rfl rfl (setsE ht) Tryz.underlying67 rfl (infoEc e)) rfl ⟨by rw [HE.out]; rfl, ?_⟩
    exact below_cells (by omega) _ _ _ (boxEc_below w e)
  · rw [hb] at hB
    by_cases h1 : b < e.pr
    · have HE := hid (show promE e b = (e, 11) by unfold promE; rw [hb, if_neg (by simp), if_pos h1])
      clear hb
      go_enter Tryz.func112, Tryz.ntmps112
      go_wp2_with (first
        | (go_at_call 102; refine (hB _).mono ?_; rintro e w' ⟨rfl, rfl⟩)
        | (refine wpList_load_mid rfl 67 _ rfl _ _ rfl e.list _ hr Tryz.underlying67 rfl (infoEc e) ?_)
        | (refine wpList_store_mid rfl 67 _ _ rfl _ _ e.arr rfl rfl ht (infoEc' e) (Ev.one e) ?_))
      refine bodyPost_ret (ret_cell_tmp rfl rfl rfl (setsE ht) Tryz.underlying67 rfl (infoEc e)) rfl ⟨by rw [HE.out]; rfl, ?_⟩
      exact below_cells (by omega) _ _ _ (boxEc_below w e)
    · have HE := hid (show promE e b = ({ e with pr := b }, 0) by unfold promE; rw [hb, if_neg (by simp), if_neg h1])
      clear hb
      obtain ⟨e', he'⟩ : ∃ e' : Ev, e' = { e with pr := b } := ⟨_, rfl⟩
      have hArr : e.arr.setIfInBounds 7 (.int .i64 b) = e'.arr := by rw [he']; rfl
      have hr' : ((w.alloc (.cells (e.arr.setIfInBounds 7 (.int .i64 b)) 67)).alloc zeroEc).rangeAt w.heap.size 0 e'.list := by rw [hArr]; exact boxEc_range w e'
      have ht' : ((w.alloc (.cells (e.arr.setIfInBounds 7 (.int .i64 b)) 67)).alloc zeroEc).there (w.heap.size + 1) 0 19 := by rw [hArr]; exact boxEc_there w e'
      have hb' : Below w.heap.size w ((w.alloc (.cells (e.arr.setIfInBounds 7 (.int .i64 b)) 67)).alloc zeroEc) := by rw [hArr]; exact boxEc_below w e'
      have HE' := hid he'
      clear hArr he'
      go_enter Tryz.func112, Tryz.ntmps112
      go_wp2_with (first
        | (go_at_call 102; refine (hB _).mono ?_; rintro e w' ⟨rfl, rfl⟩)
        | (refine wpList_load_mid rfl 67 _ rfl _ _ rfl e'.list _ hr' Tryz.underlying67 rfl (infoEc e') ?_)
        | (refine wpList_store_mid rfl 67 _ _ rfl _ _ e'.arr rfl rfl ht' (infoEc' e') (Ev.one e') ?_))
      refine bodyPost_ret (ret_cell_tmp rfl rfl rfl (setsE ht') Tryz.underlying67 rfl (infoEc e')) rfl ⟨by rw [HE.out, ← HE'.out]; rfl, ?_⟩
      exact below_cells (by omega) _ _ _ hb'
set_option maxHeartbeats 1600000 in
set_option maxRecDepth 100000 in
theorem cAheadE (e : Ev) (t : Int) (w : World) : Calls Tryz.prog 153 #[.agg e.arr, .int .i64 t] w fun x w' => x = .returned (.bool (aheadE e t)) ∧ Below w.heap.size w w' := by
  have c8 := newE_cell w e 67 (j := 8) rfl
  have c16 := newE_cell w e 67 (j := 16) rfl
  have c17 := newE_cell w e 67 (j := 17) rfl
  have hb : Below w.heap.size w (w.alloc (.cells e.arr 67)) := (Below.refl _ w).alloc (Nat.le_refl _) _
  rcases hd : e.dn with _ | _
  · rw [hd] at c16
    have HE := hid (show aheadE e t = (!decide (e.lo = 0) && decide (e.lo < t)) by unfold aheadE; rw [hd]; rfl)
    clear hd
    by_cases h0 : e.lo = 0
    · go_enter Tryz.func153, Tryz.ntmps153
      go_wp2
      go_ret
      exact ⟨ret_bool (by rw [HE.out]; simp [h0]), hb⟩
    · go_enter Tryz.func153, Tryz.ntmps153
      go_wp2
      go_ret
      exact ⟨ret_bool (by rw [HE.out]; simp [h0]), hb⟩
  · rw [hd] at c16
    have HE := hid (show aheadE e t = decide (e.vt < t) by unfold aheadE; rw [hd]; rfl)
    clear hd
    go_enter Tryz.func153, Tryz.ntmps153
    go_wp2
    go_ret
    exact ⟨ret_bool (by rw [HE.out]), hb⟩
set_option maxHeartbeats 1600000 in
set_option maxRecDepth 100000 in
theorem cHoldsE (e : Ev) (t : Int) (w : World) : Calls Tryz.prog 178 #[.agg e.arr, .int .i64 t] w fun x w' => x = .returned (.bool (holdsE e t)) ∧ Below w.heap.size w w' := by
  have c9 := newE_cell w e 67 (j := 9) rfl
  have c16 := newE_cell w e 67 (j := 16) rfl
  have hb : Below w.heap.size w (w.alloc (.cells e.arr 67)) := (Below.refl _ w).alloc (Nat.le_refl _) _
  rcases hd : e.dn with _ | _
  all_goals (
    rw [hd] at c16
    have HE := hid (show holdsE e t = (!e.dn && decide (t < e.hi)) from rfl)
    rw [hd] at HE
    clear hd
    go_enter Tryz.func178, Tryz.ntmps178
    go_wp2
    go_ret
    exact ⟨ret_bool (by rw [HE.out]; simp), hb⟩)
end Go.Proofs.YtlehcaacfgocaaaGreat
namespace Go.Proofs.YtlehcaacfgocaaaGreat
set_option linter.unusedVariables false
open Go.RowKit
open Go.Lib (hid)
set_option maxHeartbeats 1600000 in
set_option maxRecDepth 100000 in
theorem cReserve (e : Ev) (t : Int) (w : World) (ht : timesB e.lo e.hi = true) : Calls Tryz.prog 181 #[.agg e.arr, .int .i64 t] w fun x w' => x = .returned (.tuple #[.agg (resE e t).1.arr, .int .i64 (resE e t).2]) ∧ Below w.heap.size w w' := by
  have hV := fun W => cValid t W
  rcases hv : validB t with _ | _
  · rw [hv] at hV
    have HE := hid (show resE e t = (e, 1) by unfold resE; rw [hv]; rfl)
    clear hv
    have HX : Hid (Ob ((w.alloc (.cells e.arr 67)).alloc zeroEc) (w.heap.size) 67 e) := hid (laid2_0 w (.cells e.arr 67) zeroEc)
    have HZ : Hid (Ob ((w.alloc (.cells e.arr 67)).alloc zeroEc) (w.heap.size + 1) 67 zE) := hid (laid2_1 w (.cells e.arr 67) zeroEc)
    have HW : Hid (Below w.heap.size w ((w.alloc (.cells e.arr 67)).alloc zeroEc)) := hid (laid2_b w (.cells e.arr 67) zeroEc)
    have tok : Hid (0 = 0) := hid rfl
    go_enter Tryz.func181, Tryz.ntmps181
    go_wp2_with (first
      | (clear tok; (with_reducible refine opaqueW ((w.alloc (.cells e.arr 67)).alloc zeroEc) ?_); intro W0 hW; rw [← hW] at HX HZ HW; clear hW)
      | (go_at_call 106; refine (hV _).mono ?_; rintro x w' ⟨rfl, rfl⟩)
      | ((with_reducible refine loadC (x := ?lx1) (b := ?lb1) (T := 67) e ?lg1 ?lo1 ?lxx1 ?lc1 ?lh1); (case lg1 => rfl); (case lo1 => rfl); (case lxx1 => rfl); (case lc1 => exact HX.out))
      | ((with_reducible refine storeC (x := ?sx2) (y := ?sy2) (b := ?sb2) (T := 67) e ?sg2 ?so2 ?sxx2 ?syy2 ?sc2 ?sh2); (case sg2 => rfl); (case so2 => rfl); (case sxx2 => rfl); (case syy2 => rfl); (case sc2 => exact Ob.room HZ.out); intro W9 hO hU; have GZ := hid hO; have GX : Hid (Ob W9 (w.heap.size) 67 e) := hid (hU.ob (HX.out) (by omega)); have GW := hid ((HW.out).trans (hU.below _ (by first | exact Nat.le_refl _ | omega))); clear hO hU; clear HX HZ HW; have HX := GX; clear GX; have HZ := GZ; clear GZ; have HW := GW; clear GW))
    refine bodyPost_ret (ret_cell_tmp rfl rfl rfl (HZ.out).range Tryz.underlying67 rfl (infoEc e)) rfl ⟨by rw [HE.out]; rfl, HW.out⟩
  · rw [hv] at hV
    have HE := hid (show (resE e t).2 = 0 by unfold resE; rw [hv]; rfl)
    have hR := fun W => cReserved e t W ht hv
    obtain ⟨e1, he1⟩ : ∃ x : Ev, x = (resE e t).1 := ⟨_, rfl⟩
    rw [← he1] at hR
    rw [← he1, HE.out]
    clear hv he1
    have HX : Hid (Ob ((w.alloc (.cells e.arr 67)).alloc zeroEc) (w.heap.size) 67 e) := hid (laid2_0 w (.cells e.arr 67) zeroEc)
    have HZ : Hid (Ob ((w.alloc (.cells e.arr 67)).alloc zeroEc) (w.heap.size + 1) 67 zE) := hid (laid2_1 w (.cells e.arr 67) zeroEc)
    have HW : Hid (Below w.heap.size w ((w.alloc (.cells e.arr 67)).alloc zeroEc)) := hid (laid2_b w (.cells e.arr 67) zeroEc)
    have tok : Hid (0 = 0) := hid rfl
    go_enter Tryz.func181, Tryz.ntmps181
    go_wp2_with (first
      | (clear tok; (with_reducible refine opaqueW ((w.alloc (.cells e.arr 67)).alloc zeroEc) ?_); intro W0 hW; rw [← hW] at HX HZ HW; clear hW)
      | (go_at_call 106; refine (hV _).mono ?_; rintro x w' ⟨rfl, rfl⟩)
      | ((with_reducible refine loadC (x := ?lx3) (b := ?lb3) (T := 67) e ?lg3 ?lo3 ?lxx3 ?lc3 ?lh3); (case lg3 => rfl); (case lo3 => rfl); (case lxx3 => rfl); (case lc3 => exact HX.out)))
    go_at_call 154
    refine (hR _).mono ?_
    rintro x w1 ⟨rfl, hB⟩
    have GX : Hid (Ob w1 (w.heap.size) 67 e) := hid (heapB (HX.out) hB (Array.getElem?_eq_some_iff.1 (HX.out)).1)
    have GZ : Hid (Ob w1 (w.heap.size + 1) 67 zE) := hid (heapB (HZ.out) hB (Array.getElem?_eq_some_iff.1 (HZ.out)).1)
    have GW := hid ((HW.out).trans (hB.mono (HW.out).size))
    clear hB HX HZ HW
    have HX := GX; clear GX
    have HZ := GZ; clear GZ
    have HW := GW; clear GW
    go_wp2_with (first
      | ((with_reducible refine uponStore (e := e1) (Ob.room HZ.out) ?_); intro W9 hO hU; have GZ := hid hO; have GX : Hid (Ob W9 (w.heap.size) 67 e) := hid (hU.ob (HX.out) (by omega)); have GW := hid ((HW.out).trans (hU.below _ (by first | exact Nat.le_refl _ | omega))); clear hO hU; clear HX HZ HW; have HX := GX; clear GX; have HZ := GZ; clear GZ; have HW := GW; clear GW)
      | fail)
    refine bodyPost_ret (ret_cell_tmp rfl rfl rfl (HZ.out).range Tryz.underlying67 rfl (infoEc e1)) rfl ⟨rfl, HW.out⟩
set_option maxHeartbeats 1600000 in
set_option maxRecDepth 100000 in
theorem cVote {e : Ev} {t : Int} {p : Sv} {f l : List C7} {w : World} (hv : Sl w e.fp.v f) (hp : Sl w p.v l) (lv : f.length ≤ 1024) (ll : l.length ≤ 1024) (ht : timesB e.lo e.hi = true) :
    Calls Tryz.prog 180 #[.agg e.arr, .agg #[.int .i64 t, p.v]] w fun x w' => x = .returned (.tuple #[.agg (votE e t p (fullB t l) (decide (e.ft = t) && sameB f l) (noneB e.ft f)).1.arr, .int .i64 (votE e t p (fullB t l) (decide (e.ft = t) && sameB f l) (noneB e.ft f)).2]) ∧ Below w.heap.size w w' := by
  obtain ⟨b1, hb1⟩ : ∃ b, b = fullB t l := ⟨_, rfl⟩
  obtain ⟨b2, hb2⟩ : ∃ b, b = (decide (e.ft = t) && sameB f l) := ⟨_, rfl⟩
  obtain ⟨b3, hb3⟩ : ∃ b, b = noneB e.ft f := ⟨_, rfl⟩
  have hF := fun (W : World) (hB : Below w.heap.size w W) => cFull t (hp.on hB) ll
  have hS := fun (W : World) (hB : Below w.heap.size w W) => cSameVG e.ft t (hv.on hB) (hp.on hB) (by omega) (by omega)
  have hn : e.fp.n = f.length := by
    obtain ⟨_, _, cap, a, hv', _⟩ := id hv
    injection hv' with h1 h2 h3
  have hN := fun (W : World) => cNone (a := e.fp.a) (cap := e.fp.c) (w := W) e.ft hn
  have hR := fun (h : b1 = true) (W : World) => cReserved { e with ft := t, fp := p } t W ht (by rw [h] at hb1; unfold fullB at hb1; exact (Bool.and_eq_true_iff.1 hb1.symm).1)
  have HR : Hid ((resE { e with ft := t, fp := p } t).1 = { (resE e t).1 with ft := t, fp := p }) := hid (by unfold resE; split <;> rfl)
  rw [← hb1] at hF
  rw [← hb2] at hS
  simp only [← hb3] at hN
  rw [← hb1, ← hb2, ← hb3]
  have HR2 := hid hR
  clear hb1 hb2 hb3 hv hp hn hR
  have HX : Hid (Ob (((w.alloc (.cells e.arr 67)).alloc (boxV t p.v)).alloc zeroEc) (w.heap.size) 67 e) := hid (laid3_0 w (.cells e.arr 67) (boxV t p.v) zeroEc)
  have HY : Hid ((((w.alloc (.cells e.arr 67)).alloc (boxV t p.v)).alloc zeroEc).heap[w.heap.size + 1]? = some (boxV t p.v)) := hid (laid3_1 w (.cells e.arr 67) (boxV t p.v) zeroEc)
  have HZ : Hid (Ob (((w.alloc (.cells e.arr 67)).alloc (boxV t p.v)).alloc zeroEc) (w.heap.size + 2) 67 zE) := hid (laid3_2 w (.cells e.arr 67) (boxV t p.v) zeroEc)
  have HW : Hid (Below w.heap.size w (((w.alloc (.cells e.arr 67)).alloc (boxV t p.v)).alloc zeroEc)) := hid (laid3_b w (.cells e.arr 67) (boxV t p.v) zeroEc)
  have tok : Hid (0 = 0) := hid rfl
  go_enter Tryz.func180, Tryz.ntmps180
  go_wp2_with (first
    | (clear tok; (with_reducible refine opaqueW (((w.alloc (.cells e.arr 67)).alloc (boxV t p.v)).alloc zeroEc) ?_); intro W0 hW; rw [← hW] at HX HY HZ HW; clear hW; have kY0 : W0.cell? ⟨w.heap.size + 1, 0, none⟩ = some (.int .i64 t) := (cellAt' HY.out 0).trans rfl; have kY1 : W0.cell? ⟨w.heap.size + 1, 1, none⟩ = some (.slice p.a p.n p.c) := (cellAt' HY.out 1).trans rfl)
    | fail)
  go_at_call 137
  refine (hF _ HW.out).mono ?_
  rintro x w1 ⟨rfl, hB⟩
  have GX : Hid (Ob w1 (w.heap.size) 67 e) := hid (heapB (HX.out) hB (Array.getElem?_eq_some_iff.1 (HX.out)).1)
  have GY : Hid (w1.heap[w.heap.size + 1]? = some (boxV t p.v)) := hid (heapB (HY.out) hB (Array.getElem?_eq_some_iff.1 (HY.out)).1)
  have GZ : Hid (Ob w1 (w.heap.size + 2) 67 zE) := hid (heapB (HZ.out) hB (Array.getElem?_eq_some_iff.1 (HZ.out)).1)
  have GW := hid ((HW.out).trans (hB.mono (HW.out).size))
  clear kY0 kY1
  clear hB HX HY HZ HW
  have HX := GX; clear GX
  have HY := GY; clear GY
  have HZ := GZ; clear GZ
  have HW := GW; clear GW
  have kX10 : w1.cell? ⟨w.heap.size, 10, none⟩ = some (.int .i64 e.ft) := (HX.out).cell (j := 10) rfl
  have kX11 : w1.cell? ⟨w.heap.size, 11, none⟩ = some (.slice e.fp.a e.fp.n e.fp.c) := (HX.out).cell (j := 11) rfl
  have kY0 : w1.cell? ⟨w.heap.size + 1, 0, none⟩ = some (.int .i64 t) := (cellAt' HY.out 0).trans rfl
  have kY1 : w1.cell? ⟨w.heap.size + 1, 1, none⟩ = some (.slice p.a p.n p.c) := (cellAt' HY.out 1).trans rfl
  rcases b1 with _ | _
  · have HE := hid (show votE e t p false b2 b3 = (e, 1) from rfl)
    go_wp2_with (first
      | ((with_reducible refine loadC (x := ?lx4) (b := ?lb4) (T := 67) e ?lg4 ?lo4 ?lxx4 ?lc4 ?lh4); (case lg4 => rfl); (case lo4 => rfl); (case lxx4 => rfl); (case lc4 => exact HX.out))
      | ((with_reducible refine storeC (x := ?sx5) (y := ?sy5) (b := ?sb5) (T := 67) e ?sg5 ?so5 ?sxx5 ?syy5 ?sc5 ?sh5); (case sg5 => rfl); (case so5 => rfl); (case sxx5 => rfl); (case syy5 => rfl); (case sc5 => exact Ob.room HZ.out); intro W9 hO hU; have GZ := hid hO; have GX : Hid (Ob W9 (w.heap.size) 67 e) := hid (hU.ob (HX.out) (by omega)); have GY : Hid (W9.heap[w.heap.size + 1]? = some (boxV t p.v)) := hid (hU.ob (HY.out) (by omega)); have GW := hid ((HW.out).trans (hU.below _ (by first | exact Nat.le_refl _ | omega))); clear hO hU; clear kX10 kX11 kY0 kY1; clear HX HY HZ HW; have HX := GX; clear GX; have HY := GY; clear GY; have HZ := GZ; clear GZ; have HW := GW; clear GW))
    refine bodyPost_ret (ret_cell_tmp rfl rfl rfl (HZ.out).range Tryz.underlying67 rfl (infoEc e)) rfl ⟨by rw [HE.out]; rfl, HW.out⟩
  · have hR := HR2.out rfl
    clear HR2
    go_wp2_with fail
    go_at_call 155
    refine (hS _ HW.out).mono ?_
    rintro x w2 ⟨rfl, hB⟩
    have GX : Hid (Ob w2 (w.heap.size) 67 e) := hid (heapB (HX.out) hB (Array.getElem?_eq_some_iff.1 (HX.out)).1)
    have GY : Hid (w2.heap[w.heap.size + 1]? = some (boxV t p.v)) := hid (heapB (HY.out) hB (Array.getElem?_eq_some_iff.1 (HY.out)).1)
    have GZ : Hid (Ob w2 (w.heap.size + 2) 67 zE) := hid (heapB (HZ.out) hB (Array.getElem?_eq_some_iff.1 (HZ.out)).1)
    have GW := hid ((HW.out).trans (hB.mono (HW.out).size))
    clear kX10 kX11 kY0 kY1
    clear hB HX HY HZ HW
    have HX := GX; clear GX
    have HY := GY; clear GY
    have HZ := GZ; clear GZ
    have HW := GW; clear GW
    have kX10 : w2.cell? ⟨w.heap.size, 10, none⟩ = some (.int .i64 e.ft) := (HX.out).cell (j := 10) rfl
    have kX11 : w2.cell? ⟨w.heap.size, 11, none⟩ = some (.slice e.fp.a e.fp.n e.fp.c) := (HX.out).cell (j := 11) rfl
    have kY0 : w2.cell? ⟨w.heap.size + 1, 0, none⟩ = some (.int .i64 t) := (cellAt' HY.out 0).trans rfl
    have kY1 : w2.cell? ⟨w.heap.size + 1, 1, none⟩ = some (.slice p.a p.n p.c) := (cellAt' HY.out 1).trans rfl
    rcases b2 with _ | _
    · skip
      go_wp2_with fail
      go_at_call 105
      refine (hN _).mono ?_
      rintro x w3 ⟨rfl, hB⟩
      have GX : Hid (Ob w3 (w.heap.size) 67 e) := hid (heapB (HX.out) hB (Array.getElem?_eq_some_iff.1 (HX.out)).1)
      have GY : Hid (w3.heap[w.heap.size + 1]? = some (boxV t p.v)) := hid (heapB (HY.out) hB (Array.getElem?_eq_some_iff.1 (HY.out)).1)
      have GZ : Hid (Ob w3 (w.heap.size + 2) 67 zE) := hid (heapB (HZ.out) hB (Array.getElem?_eq_some_iff.1 (HZ.out)).1)
      have GW := hid ((HW.out).trans (hB.mono (HW.out).size))
      clear kX10 kX11 kY0 kY1
      clear hB HX HY HZ HW
      have HX := GX; clear GX
      have HY := GY; clear GY
      have HZ := GZ; clear GZ
      have HW := GW; clear GW
      have kX10 : w3.cell? ⟨w.heap.size, 10, none⟩ = some (.int .i64 e.ft) := (HX.out).cell (j := 10) rfl
      have zX10 : w3.frozen? ⟨w.heap.size, 10, none⟩ = false := (HX.out).free 10
      have kX11 : w3.cell? ⟨w.heap.size, 11, none⟩ = some (.slice e.fp.a e.fp.n e.fp.c) := (HX.out).cell (j := 11) rfl
      have zX11 : w3.frozen? ⟨w.heap.size, 11, none⟩ = false := (HX.out).free 11
      have kY0 : w3.cell? ⟨w.heap.size + 1, 0, none⟩ = some (.int .i64 t) := (cellAt' HY.out 0).trans rfl
      have kY1 : w3.cell? ⟨w.heap.size + 1, 1, none⟩ = some (.slice p.a p.n p.c) := (cellAt' HY.out 1).trans rfl
      rcases b3 with _ | _
      · have HE := hid (show votE e t p true false false = (e, 6) from rfl)
        go_wp2_with (first
          | ((with_reducible refine loadC (x := ?lx6) (b := ?lb6) (T := 67) e ?lg6 ?lo6 ?lxx6 ?lc6 ?lh6); (case lg6 => rfl); (case lo6 => rfl); (case lxx6 => rfl); (case lc6 => exact HX.out))
          | ((with_reducible refine storeC (x := ?sx7) (y := ?sy7) (b := ?sb7) (T := 67) e ?sg7 ?so7 ?sxx7 ?syy7 ?sc7 ?sh7); (case sg7 => rfl); (case so7 => rfl); (case sxx7 => rfl); (case syy7 => rfl); (case sc7 => exact Ob.room HZ.out); intro W9 hO hU; have GZ := hid hO; have GX : Hid (Ob W9 (w.heap.size) 67 e) := hid (hU.ob (HX.out) (by omega)); have GY : Hid (W9.heap[w.heap.size + 1]? = some (boxV t p.v)) := hid (hU.ob (HY.out) (by omega)); have GW := hid ((HW.out).trans (hU.below _ (by first | exact Nat.le_refl _ | omega))); clear hO hU; clear kX10 zX10 kX11 zX11 kY0 kY1; clear HX HY HZ HW; have HX := GX; clear GX; have HY := GY; clear GY; have HZ := GZ; clear GZ; have HW := GW; clear GW))
        refine bodyPost_ret (ret_cell_tmp rfl rfl rfl (HZ.out).range Tryz.underlying67 rfl (infoEc e)) rfl ⟨by rw [HE.out]; rfl, HW.out⟩
      · obtain ⟨e1, he1⟩ : ∃ x : Ev, x = (resE { e with ft := t, fp := p } t).1 := ⟨_, rfl⟩
        rw [← he1] at hR HR
        have HE := hid (show votE e t p true false true = (e1, 0) by rw [HR.out]; rfl)
        clear he1 HR
        go_wp2_with (first
          | ((with_reducible refine loadC (x := ?lx8) (b := ?lb8) (T := 67) ({ e with ft := t, fp := p } : Ev) ?lg8 ?lo8 ?lxx8 ?lc8 ?lh8); (case lg8 => rfl); (case lo8 => rfl); (case lxx8 => rfl); (case lc8 => exact ((((HX.out).set (j := 10) (v := .int .i64 t) (e' := ({ e with ft := t } : Ev)) rfl)).set (j := 11) (v := .slice p.a p.n p.c) (e' := ({ e with ft := t, fp := p } : Ev)) rfl)))
          | fail)
        go_at_call 154
        refine (hR _).mono ?_
        rintro x w4 ⟨rfl, hB⟩
        have GX : Hid (Ob w4 (w.heap.size) 67 ({ e with ft := t, fp := p } : Ev)) := hid (heapB (((((HX.out).set (j := 10) (v := .int .i64 t) (e' := ({ e with ft := t } : Ev)) rfl)).set (j := 11) (v := .slice p.a p.n p.c) (e' := ({ e with ft := t, fp := p } : Ev)) rfl)) hB (Array.getElem?_eq_some_iff.1 (((((HX.out).set (j := 10) (v := .int .i64 t) (e' := ({ e with ft := t } : Ev)) rfl)).set (j := 11) (v := .slice p.a p.n p.c) (e' := ({ e with ft := t, fp := p } : Ev)) rfl))).1)
        have GY : Hid (w4.heap[w.heap.size + 1]? = some (boxV t p.v)) := hid (heapB ((setOther (q := w.heap.size) (j := 11) (v := .slice p.a p.n p.c) ((setOther (q := w.heap.size) (j := 10) (v := .int .i64 t) (HY.out) (by omega))) (by omega))) hB (Array.getElem?_eq_some_iff.1 ((setOther (q := w.heap.size) (j := 11) (v := .slice p.a p.n p.c) ((setOther (q := w.heap.size) (j := 10) (v := .int .i64 t) (HY.out) (by omega))) (by omega)))).1)
        have GZ : Hid (Ob w4 (w.heap.size + 2) 67 zE) := hid (heapB ((setOther (q := w.heap.size) (j := 11) (v := .slice p.a p.n p.c) ((setOther (q := w.heap.size) (j := 10) (v := .int .i64 t) (HZ.out) (by omega))) (by omega))) hB (Array.getElem?_eq_some_iff.1 ((setOther (q := w.heap.size) (j := 11) (v := .slice p.a p.n p.c) ((setOther (q := w.heap.size) (j := 10) (v := .int .i64 t) (HZ.out) (by omega))) (by omega)))).1)
        have GW := hid ((((((HW.out).setCell (p := ⟨w.heap.size, 10, none⟩) (by first | exact Nat.le_refl _ | simp | omega) (.int .i64 t))).setCell (p := ⟨w.heap.size, 11, none⟩) (by first | exact Nat.le_refl _ | simp | omega) (.slice p.a p.n p.c))).trans (hB.mono (((((HW.out).setCell (p := ⟨w.heap.size, 10, none⟩) (by first | exact Nat.le_refl _ | simp | omega) (.int .i64 t))).setCell (p := ⟨w.heap.size, 11, none⟩) (by first | exact Nat.le_refl _ | simp | omega) (.slice p.a p.n p.c))).size))
        clear kX10 zX10 kX11 zX11 kY0 kY1
        clear hB HX HY HZ HW
        have HX := GX; clear GX
        have HY := GY; clear GY
        have HZ := GZ; clear GZ
        have HW := GW; clear GW
        go_wp2_with (first
          | ((with_reducible refine uponStore (e := e1) (Ob.room HZ.out) ?_); intro W9 hO hU; have GZ := hid hO; have GX : Hid (Ob W9 (w.heap.size) 67 ({ e with ft := t, fp := p } : Ev)) := hid (hU.ob (HX.out) (by omega)); have GY : Hid (W9.heap[w.heap.size + 1]? = some (boxV t p.v)) := hid (hU.ob (HY.out) (by omega)); have GW := hid ((HW.out).trans (hU.below _ (by first | exact Nat.le_refl _ | omega))); clear hO hU; clear HX HY HZ HW; have HX := GX; clear GX; have HY := GY; clear GY; have HZ := GZ; clear GZ; have HW := GW; clear GW)
          | fail)
        refine bodyPost_ret (ret_cell_tmp rfl rfl rfl (HZ.out).range Tryz.underlying67 rfl (infoEc e1)) rfl ⟨by rw [HE.out]; rfl, HW.out⟩
    · have HE := hid (show votE e t p true true b3 = (e, 0) from rfl)
      go_wp2_with (first
        | ((with_reducible refine loadC (x := ?lx9) (b := ?lb9) (T := 67) e ?lg9 ?lo9 ?lxx9 ?lc9 ?lh9); (case lg9 => rfl); (case lo9 => rfl); (case lxx9 => rfl); (case lc9 => exact HX.out))
        | ((with_reducible refine storeC (x := ?sx10) (y := ?sy10) (b := ?sb10) (T := 67) e ?sg10 ?so10 ?sxx10 ?syy10 ?sc10 ?sh10); (case sg10 => rfl); (case so10 => rfl); (case sxx10 => rfl); (case syy10 => rfl); (case sc10 => exact Ob.room HZ.out); intro W9 hO hU; have GZ := hid hO; have GX : Hid (Ob W9 (w.heap.size) 67 e) := hid (hU.ob (HX.out) (by omega)); have GY : Hid (W9.heap[w.heap.size + 1]? = some (boxV t p.v)) := hid (hU.ob (HY.out) (by omega)); have GW := hid ((HW.out).trans (hU.below _ (by first | exact Nat.le_refl _ | omega))); clear hO hU; clear kX10 kX11 kY0 kY1; clear HX HY HZ HW; have HX := GX; clear GX; have HY := GY; clear GY; have HZ := GZ; clear GZ; have HW := GW; clear GW))
      refine bodyPost_ret (ret_cell_tmp rfl rfl rfl (HZ.out).range Tryz.underlying67 rfl (infoEc e)) rfl ⟨by rw [HE.out]; rfl, HW.out⟩
end Go.Proofs.YtlehcaacfgocaaaGreat
