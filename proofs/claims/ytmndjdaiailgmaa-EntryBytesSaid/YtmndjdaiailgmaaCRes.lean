/- Entries by value, the program's own: a timestamp reserved. -/
import Derived.Test.YtmndjdaiailgmaaObj
import Derived.Laws.Cover1
namespace Go.Proofs.Ytmndjdaiailgmaa
set_option linter.unusedVariables false
open Go.RowKit
open Go.Lib (hid)

set_option maxHeartbeats 1600000 in
set_option maxRecDepth 100000 in
theorem cReservedA (e : Ev) (t : Int) (w : World) (h0 : e.lo = 0) (h1 : e.hi = 0) : Calls Try.prog 62 #[.agg e.arr, .int .i64 t] w fun x w' => x = .returned (.agg ({ e with lo := t, hi := t } : Ev).arr) ∧ Below w.heap.size w w' := by
  have hmin : ∀ (ts : Array TypeId) (ty : TypeId) (W : World), (Builtin.min_ ts ty #[.int .i64 t, .int .i64 t, .int .i64 t]).run Try.prog W = .ok (.int .i64 t) W := fun ts ty W => by simp [Builtin.min_, Builtin.min2]
  have hmax : ∀ (ts : Array TypeId) (ty : TypeId) (W : World), (Builtin.max_ ts ty #[.int .i64 t, .int .i64 t, .int .i64 t]).run Try.prog W = .ok (.int .i64 t) W := fun ts ty W => by simp [Builtin.max_, Builtin.max2]
  have HX : Hid (Ob ((w.alloc (.cells e.arr 30)).alloc zeroEc) w.heap.size 30 e) := hid (box2_heap w e _ _)
  have HZ : Hid (Ob ((w.alloc (.cells e.arr 30)).alloc zeroEc) (w.heap.size + 1) 30 zE) := hid (by have := heap_alloc_new (w.alloc (.cells e.arr 30)) zeroEc; rw [World.size_alloc] at this; exact this)
  have HW : Hid (Below w.heap.size w ((w.alloc (.cells e.arr 30)).alloc zeroEc)) := hid (((Below.refl _ w).alloc (Nat.le_refl _) _).alloc (by simp) _)
  have tok : Hid (0 = 0) := hid rfl
  go_enter Try.func62, Try.ntmps62
  go_wp2_with (first
    | (clear tok; (with_reducible refine opaqueW ((w.alloc (.cells e.arr 30)).alloc zeroEc) ?_); intro W hW; rw [← hW] at HX HZ HW; clear hW; have c8 := HX.out.cell (j := 8) rfl; have c9 := HX.out.cell (j := 9) rfl; have f8 := HX.out.free 8; have f9 := HX.out.free 9)
    | ((with_reducible refine loadC (x := ?lx) (b := ?lb) (T := 30) ({ e with lo := t, hi := t } : Ev) ?lg ?lo ?lx1 ?lc ?lh); (case lg => rfl); (case lo => rfl); (case lx1 => rfl); (case lc => exact ((((HX.out.set (j := 8) (v := .int .i64 t) (e' := { e with lo := t }) rfl).set (j := 9) (v := .int .i64 t) (e' := { e with lo := t, hi := t }) rfl).set (j := 8) (v := .int .i64 t) (e' := { e with lo := t, hi := t }) rfl).set (j := 9) (v := .int .i64 t) (e' := { e with lo := t, hi := t }) rfl)))
    | ((with_reducible refine storeC (x := ?sx) (y := ?sy) (b := ?sb) (T := 30) ({ e with lo := t, hi := t } : Ev) ?sg ?so ?sx1 ?sy1 ?sc ?sh); (case sg => rfl); (case so => rfl); (case sx1 => rfl); (case sy1 => rfl); (case sc => exact Ob.room (e := zE) (setOther (q := w.heap.size) (j := 9) (v := .int .i64 t) (setOther (q := w.heap.size) (j := 8) (v := .int .i64 t) (setOther (q := w.heap.size) (j := 9) (v := .int .i64 t) (setOther (q := w.heap.size) (j := 8) (v := .int .i64 t) HZ.out (by omega)) (by omega)) (by omega)) (by omega))); intro W2 hO hU; have HO := hid hO; have HU := hid (hU.below _ (Nat.le_succ _)); clear hO hU))
  refine bodyPost_ret (ret_cell1 rfl rfl HO.out.range Try.underlying30 rfl (infoEc ({ e with lo := t, hi := t } : Ev))) rfl ⟨?_, ?_⟩
  · rfl
  · exact ((((HW.out.setCell (p := ⟨w.heap.size, 8, none⟩) (Nat.le_refl _) (.int .i64 t)).setCell (p := ⟨w.heap.size, 9, none⟩) (Nat.le_refl _) (.int .i64 t)).setCell (p := ⟨w.heap.size, 8, none⟩) (Nat.le_refl _) (.int .i64 t)).setCell (p := ⟨w.heap.size, 9, none⟩) (Nat.le_refl _) (.int .i64 t)).trans HU.out

set_option maxHeartbeats 1600000 in
set_option maxRecDepth 100000 in
theorem cReservedB (e : Ev) (t m M : Int) (w : World) (h0 : ¬ e.lo = 0) (h1 : ¬ e.hi = 0) (hmin : ∀ (ts : Array TypeId) (ty : TypeId) (W : World), (Builtin.min_ ts ty #[.int .i64 e.lo, .int .i64 e.hi, .int .i64 t]).run Try.prog W = .ok (.int .i64 m) W) (hmax : ∀ (ts : Array TypeId) (ty : TypeId) (W : World), (Builtin.max_ ts ty #[.int .i64 e.lo, .int .i64 e.hi, .int .i64 t]).run Try.prog W = .ok (.int .i64 M) W) : Calls Try.prog 62 #[.agg e.arr, .int .i64 t] w fun x w' => x = .returned (.agg ({ e with lo := m, hi := M } : Ev).arr) ∧ Below w.heap.size w w' := by
  have hq0 : (e.lo == 0) = false := by simp [h0]
  have hq1 : (e.hi == 0) = false := by simp [h1]
  have HX : Hid (Ob ((w.alloc (.cells e.arr 30)).alloc zeroEc) w.heap.size 30 e) := hid (box2_heap w e _ _)
  have HZ : Hid (Ob ((w.alloc (.cells e.arr 30)).alloc zeroEc) (w.heap.size + 1) 30 zE) := hid (by have := heap_alloc_new (w.alloc (.cells e.arr 30)) zeroEc; rw [World.size_alloc] at this; exact this)
  have HW : Hid (Below w.heap.size w ((w.alloc (.cells e.arr 30)).alloc zeroEc)) := hid (((Below.refl _ w).alloc (Nat.le_refl _) _).alloc (by simp) _)
  have tok : Hid (0 = 0) := hid rfl
  go_enter Try.func62, Try.ntmps62
  go_wp2_with (first
    | (clear tok; (with_reducible refine opaqueW ((w.alloc (.cells e.arr 30)).alloc zeroEc) ?_); intro W hW; rw [← hW] at HX HZ HW; clear hW; have c8 := HX.out.cell (j := 8) rfl; have c9 := HX.out.cell (j := 9) rfl; have f8 := HX.out.free 8; have f9 := HX.out.free 9)
    | ((with_reducible refine loadC (x := ?lx) (b := ?lb) (T := 30) ({ e with lo := m, hi := M } : Ev) ?lg ?lo ?lx1 ?lc ?lh); (case lg => rfl); (case lo => rfl); (case lx1 => rfl); (case lc => exact ((HX.out.set (j := 8) (v := .int .i64 m) (e' := { e with lo := m }) rfl).set (j := 9) (v := .int .i64 M) (e' := { e with lo := m, hi := M }) rfl)))
    | ((with_reducible refine storeC (x := ?sx) (y := ?sy) (b := ?sb) (T := 30) ({ e with lo := m, hi := M } : Ev) ?sg ?so ?sx1 ?sy1 ?sc ?sh); (case sg => rfl); (case so => rfl); (case sx1 => rfl); (case sy1 => rfl); (case sc => exact Ob.room (e := zE) (setOther (q := w.heap.size) (j := 9) (v := .int .i64 M) (setOther (q := w.heap.size) (j := 8) (v := .int .i64 m) HZ.out (by omega)) (by omega))); intro W2 hO hU; have HO := hid hO; have HU := hid (hU.below _ (Nat.le_succ _)); clear hO hU))
  refine bodyPost_ret (ret_cell1 rfl rfl HO.out.range Try.underlying30 rfl (infoEc ({ e with lo := m, hi := M } : Ev))) rfl ⟨?_, ?_⟩
  · rfl
  · exact ((HW.out.setCell (p := ⟨w.heap.size, 8, none⟩) (Nat.le_refl _) (.int .i64 m)).setCell (p := ⟨w.heap.size, 9, none⟩) (Nat.le_refl _) (.int .i64 M)).trans HU.out

theorem valid_iff {t : Int} : validB t = true ↔ 16 ≤ t ∧ t < 1048576 ∧ t % 16 ≤ 8 := by unfold validB; simp
theorem times_cases {lo hi : Int} (h : timesB lo hi = true) : (lo = 0 ∧ hi = 0) ∨ (validB lo = true ∧ validB hi = true ∧ lo ≤ hi) := by
  unfold timesB at h
  rw [Bool.or_eq_true, Bool.and_eq_true, Bool.and_eq_true, Bool.and_eq_true] at h
  rcases h with ⟨a, b⟩ | ⟨⟨a, b⟩, c⟩
  · exact .inl ⟨of_decide_eq_true a, of_decide_eq_true b⟩
  · exact .inr ⟨a, b, of_decide_eq_true c⟩
theorem cReserved (e : Ev) (t : Int) (w : World) (ht : timesB e.lo e.hi = true) (hv : validB t = true) : Calls Try.prog 62 #[.agg e.arr, .int .i64 t] w fun x w' => x = .returned (.agg (resE e t).1.arr) ∧ Below w.heap.size w w' := by
  have h16 := (valid_iff.1 hv).1
  rcases times_cases ht with ⟨h0, h1⟩ | ⟨h0, h1, hle⟩
  · have : (resE e t).1 = { e with lo := t, hi := t } := by unfold resE loE hiE; rw [hv, if_neg (by simp), if_pos (.inl h0), if_pos (by omega)]
    rw [this]
    exact cReservedA e t w h0 h1
  · have g0 := (valid_iff.1 h0).1
    have g1 := (valid_iff.1 h1).1
    have : (resE e t).1 = { e with lo := (if t < e.lo then t else e.lo), hi := (if e.hi < t then t else e.hi) } := by
      unfold resE loE hiE
      rw [hv, if_neg (by simp)]
      by_cases h : t < e.lo
      · rw [if_pos (.inr h), if_pos h]
      · rw [if_neg (by omega), if_neg h]
    rw [this]
    refine cReservedB e t _ _ w (by omega) (by omega) (fun ts ty W => ?_) (fun ts ty W => ?_)
    · have hle' : ¬ e.hi < e.lo := by omega
      simp [Builtin.min_, Builtin.min2, hle']
    · have hle' : (if e.lo < e.hi then e.hi else e.lo) = e.hi := by split <;> omega
      simp [Builtin.max_, Builtin.max2, hle']
end Go.Proofs.Ytmndjdaiailgmaa
