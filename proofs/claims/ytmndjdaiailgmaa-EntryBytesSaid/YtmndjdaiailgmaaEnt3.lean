/- Entries by value: the document's Reserve, Ahead, Holds, and Of. -/
import Derived.Test.YtmndjdaiailgmaaBig
namespace Go.Proofs.Ytmndjdaiailgmaa
set_option linter.unusedVariables false
open Go.RowKit
open Go.Lib (hid)

def loE (e : Ev) (t : Int) : Int := if e.lo = 0 ∨ t < e.lo then t else e.lo
def hiE (e : Ev) (t : Int) : Int := if e.hi < t then t else e.hi
def resE (e : Ev) (t : Int) : Ev × Int := if validB t = false then (e, 1) else ({ e with lo := loE e t, hi := hiE e t }, 0)
def aheadE (e : Ev) (t : Int) : Bool := if e.dn = true then decide (e.vt < t) else (!decide (e.lo = 0) && decide (e.lo < t))
def holdsE (e : Ev) (t : Int) : Bool := !e.dn && decide (t < e.hi)
theorem boxE_cell (w : World) (e : Ev) {j : Nat} {v : Value} (h : e.list[j]? = some v) : (boxE w e).cell? ⟨w.heap.size, j, none⟩ = some v := by
  have := boxE_range w e j v h; rwa [Nat.zero_add] at this
theorem newE_cell (w : World) (e : Ev) (T : TypeId) {j : Nat} {v : Value} (h : e.list[j]? = some v) : (w.alloc (.cells e.arr T)).cell? ⟨w.heap.size, j, none⟩ = some v := by
  have := rangeNew w e T j v h; rwa [Nat.zero_add] at this

set_option maxHeartbeats 1600000 in
set_option maxRecDepth 100000 in
theorem rReserve (e : Ev) (t : Int) (w : World) : Calls Try.prog 30 #[.agg e.arr, .int .i64 t] w fun x w' => x = .returned (.tuple #[.agg (resE e t).1.arr, .int .i64 (resE e t).2]) ∧ Below w.heap.size w w' := by
  have hV := fun W => rValid t W
  have c8 := boxE_cell w e (j := 8) rfl
  have c9 := boxE_cell w e (j := 9) rfl
  have f8 := boxE_frozen w e 8
  have f9 := boxE_frozen w e 9
  rcases hv : validB t with _ | _
  · rw [hv] at hV
    have hv0 := hv
    obtain ⟨e', he'⟩ : ∃ e' : Ev, e' = e := ⟨_, rfl⟩
    have hArr : e.arr = e'.arr := by subst he'; rfl
    have hr' : ((w.alloc (.cells e.arr 36)).alloc zeroE).rangeAt w.heap.size 0 e'.list := by rw [hArr]; exact boxE_range w e'
    have ht' : ((w.alloc (.cells e.arr 36)).alloc zeroE).there (w.heap.size + 1) 0 19 := by rw [hArr]; exact boxE_there w e'
    have hb' : Below w.heap.size w ((w.alloc (.cells e.arr 36)).alloc zeroE) := by rw [hArr]; exact boxE_below w e'
    have HE := hid (show resE e t = (e', 1) by rw [he']; unfold resE; rw [hv, if_pos rfl])
    clear hArr he' hv hv0
    go_enter Try.func30, Try.ntmps30
    go_wp2_with (first
      | (go_at_call 43; refine (hV _).mono ?_; rintro e w' ⟨rfl, rfl⟩)
      | (refine wpList_load_mid rfl 36 _ rfl _ _ rfl e'.list _ hr' Try.underlying36 rfl (infoE e') ?_)
      | (refine wpList_store_mid rfl 36 _ _ rfl _ _ e'.arr rfl rfl ht' (infoE' e') (Ev.one e') ?_))
    refine bodyPost_ret (ret_cell_tmp rfl rfl rfl (setsE ht') Try.underlying36 rfl (infoE e')) rfl ⟨by rw [HE.out]; rfl, ?_⟩
    exact below_cells (by omega) _ _ _ hb'
  · rw [hv] at hV
    by_cases h0 : e.lo = 0
    · by_cases h2 : e.hi < t
      · obtain ⟨e', he'⟩ : ∃ e' : Ev, e' = { e with lo := t, hi := t } := ⟨_, rfl⟩
        have hArr : (e.arr.setIfInBounds 8 (.int .i64 t)).setIfInBounds 9 (.int .i64 t) = e'.arr := by subst he'; rfl
        have hr' : ((w.alloc (.cells ((e.arr.setIfInBounds 8 (.int .i64 t)).setIfInBounds 9 (.int .i64 t)) 36)).alloc zeroE).rangeAt w.heap.size 0 e'.list := by rw [hArr]; exact boxE_range w e'
        have ht' : ((w.alloc (.cells ((e.arr.setIfInBounds 8 (.int .i64 t)).setIfInBounds 9 (.int .i64 t)) 36)).alloc zeroE).there (w.heap.size + 1) 0 19 := by rw [hArr]; exact boxE_there w e'
        have hb' : Below w.heap.size w ((w.alloc (.cells ((e.arr.setIfInBounds 8 (.int .i64 t)).setIfInBounds 9 (.int .i64 t)) 36)).alloc zeroE) := by rw [hArr]; exact boxE_below w e'
        have d9 : ((w.alloc (.cells (e.arr.setIfInBounds 8 (.int .i64 t)) 36)).alloc zeroE).cell? ⟨w.heap.size, 9, none⟩ = some (.int .i64 e.hi) := by
          have : e.arr.setIfInBounds 8 (.int .i64 t) = ({ e with lo := t } : Ev).arr := rfl
          rw [this]; exact boxE_cell w _ rfl
        have g9 : ((w.alloc (.cells (e.arr.setIfInBounds 8 (.int .i64 t)) 36)).alloc zeroE).frozen? ⟨w.heap.size, 9, none⟩ = false := by
          have : e.arr.setIfInBounds 8 (.int .i64 t) = ({ e with lo := t } : Ev).arr := rfl
          rw [this]; exact boxE_frozen w _ 9
        have HE := hid (show resE e t = (e', 0) by rw [he']; unfold resE loE hiE; rw [hv, if_neg (by simp), if_pos (.inl h0), if_pos h2])
        clear hArr he' hv
        go_enter Try.func30, Try.ntmps30
        go_wp2_with (first
          | (go_at_call 43; refine (hV _).mono ?_; rintro e w' ⟨rfl, rfl⟩)
          | (refine wpList_load_mid rfl 36 _ rfl _ _ rfl e'.list _ hr' Try.underlying36 rfl (infoE e') ?_)
          | (refine wpList_store_mid rfl 36 _ _ rfl _ _ e'.arr rfl rfl ht' (infoE' e') (Ev.one e') ?_))
        refine bodyPost_ret (ret_cell_tmp rfl rfl rfl (setsE ht') Try.underlying36 rfl (infoE e')) rfl ⟨by rw [HE.out]; rfl, ?_⟩
        exact below_cells (by omega) _ _ _ hb'
      · obtain ⟨e', he'⟩ : ∃ e' : Ev, e' = { e with lo := t, hi := e.hi } := ⟨_, rfl⟩
        have hArr : e.arr.setIfInBounds 8 (.int .i64 t) = e'.arr := by subst he'; rfl
        have hr' : ((w.alloc (.cells (e.arr.setIfInBounds 8 (.int .i64 t)) 36)).alloc zeroE).rangeAt w.heap.size 0 e'.list := by rw [hArr]; exact boxE_range w e'
        have ht' : ((w.alloc (.cells (e.arr.setIfInBounds 8 (.int .i64 t)) 36)).alloc zeroE).there (w.heap.size + 1) 0 19 := by rw [hArr]; exact boxE_there w e'
        have hb' : Below w.heap.size w ((w.alloc (.cells (e.arr.setIfInBounds 8 (.int .i64 t)) 36)).alloc zeroE) := by rw [hArr]; exact boxE_below w e'
        have d9 : ((w.alloc (.cells (e.arr.setIfInBounds 8 (.int .i64 t)) 36)).alloc zeroE).cell? ⟨w.heap.size, 9, none⟩ = some (.int .i64 e.hi) := by
          have : e.arr.setIfInBounds 8 (.int .i64 t) = ({ e with lo := t } : Ev).arr := rfl
          rw [this]; exact boxE_cell w _ rfl
        have g9 : ((w.alloc (.cells (e.arr.setIfInBounds 8 (.int .i64 t)) 36)).alloc zeroE).frozen? ⟨w.heap.size, 9, none⟩ = false := by
          have : e.arr.setIfInBounds 8 (.int .i64 t) = ({ e with lo := t } : Ev).arr := rfl
          rw [this]; exact boxE_frozen w _ 9
        have HE := hid (show resE e t = (e', 0) by rw [he']; unfold resE loE hiE; rw [hv, if_neg (by simp), if_pos (.inl h0), if_neg h2])
        clear hArr he' hv
        go_enter Try.func30, Try.ntmps30
        go_wp2_with (first
          | (go_at_call 43; refine (hV _).mono ?_; rintro e w' ⟨rfl, rfl⟩)
          | (refine wpList_load_mid rfl 36 _ rfl _ _ rfl e'.list _ hr' Try.underlying36 rfl (infoE e') ?_)
          | (refine wpList_store_mid rfl 36 _ _ rfl _ _ e'.arr rfl rfl ht' (infoE' e') (Ev.one e') ?_))
        refine bodyPost_ret (ret_cell_tmp rfl rfl rfl (setsE ht') Try.underlying36 rfl (infoE e')) rfl ⟨by rw [HE.out]; rfl, ?_⟩
        exact below_cells (by omega) _ _ _ hb'
    · by_cases h1 : t < e.lo
      · by_cases h2 : e.hi < t
        · obtain ⟨e', he'⟩ : ∃ e' : Ev, e' = { e with lo := t, hi := t } := ⟨_, rfl⟩
          have hArr : (e.arr.setIfInBounds 8 (.int .i64 t)).setIfInBounds 9 (.int .i64 t) = e'.arr := by subst he'; rfl
          have hr' : ((w.alloc (.cells ((e.arr.setIfInBounds 8 (.int .i64 t)).setIfInBounds 9 (.int .i64 t)) 36)).alloc zeroE).rangeAt w.heap.size 0 e'.list := by rw [hArr]; exact boxE_range w e'
          have ht' : ((w.alloc (.cells ((e.arr.setIfInBounds 8 (.int .i64 t)).setIfInBounds 9 (.int .i64 t)) 36)).alloc zeroE).there (w.heap.size + 1) 0 19 := by rw [hArr]; exact boxE_there w e'
          have hb' : Below w.heap.size w ((w.alloc (.cells ((e.arr.setIfInBounds 8 (.int .i64 t)).setIfInBounds 9 (.int .i64 t)) 36)).alloc zeroE) := by rw [hArr]; exact boxE_below w e'
          have d9 : ((w.alloc (.cells (e.arr.setIfInBounds 8 (.int .i64 t)) 36)).alloc zeroE).cell? ⟨w.heap.size, 9, none⟩ = some (.int .i64 e.hi) := by
            have : e.arr.setIfInBounds 8 (.int .i64 t) = ({ e with lo := t } : Ev).arr := rfl
            rw [this]; exact boxE_cell w _ rfl
          have g9 : ((w.alloc (.cells (e.arr.setIfInBounds 8 (.int .i64 t)) 36)).alloc zeroE).frozen? ⟨w.heap.size, 9, none⟩ = false := by
            have : e.arr.setIfInBounds 8 (.int .i64 t) = ({ e with lo := t } : Ev).arr := rfl
            rw [this]; exact boxE_frozen w _ 9
          have HE := hid (show resE e t = (e', 0) by rw [he']; unfold resE loE hiE; rw [hv, if_neg (by simp), if_pos (.inr h1), if_pos h2])
          clear hArr he' hv
          go_enter Try.func30, Try.ntmps30
          go_wp2_with (first
            | (go_at_call 43; refine (hV _).mono ?_; rintro e w' ⟨rfl, rfl⟩)
            | (refine wpList_load_mid rfl 36 _ rfl _ _ rfl e'.list _ hr' Try.underlying36 rfl (infoE e') ?_)
            | (refine wpList_store_mid rfl 36 _ _ rfl _ _ e'.arr rfl rfl ht' (infoE' e') (Ev.one e') ?_))
          refine bodyPost_ret (ret_cell_tmp rfl rfl rfl (setsE ht') Try.underlying36 rfl (infoE e')) rfl ⟨by rw [HE.out]; rfl, ?_⟩
          exact below_cells (by omega) _ _ _ hb'
        · obtain ⟨e', he'⟩ : ∃ e' : Ev, e' = { e with lo := t, hi := e.hi } := ⟨_, rfl⟩
          have hArr : e.arr.setIfInBounds 8 (.int .i64 t) = e'.arr := by subst he'; rfl
          have hr' : ((w.alloc (.cells (e.arr.setIfInBounds 8 (.int .i64 t)) 36)).alloc zeroE).rangeAt w.heap.size 0 e'.list := by rw [hArr]; exact boxE_range w e'
          have ht' : ((w.alloc (.cells (e.arr.setIfInBounds 8 (.int .i64 t)) 36)).alloc zeroE).there (w.heap.size + 1) 0 19 := by rw [hArr]; exact boxE_there w e'
          have hb' : Below w.heap.size w ((w.alloc (.cells (e.arr.setIfInBounds 8 (.int .i64 t)) 36)).alloc zeroE) := by rw [hArr]; exact boxE_below w e'
          have d9 : ((w.alloc (.cells (e.arr.setIfInBounds 8 (.int .i64 t)) 36)).alloc zeroE).cell? ⟨w.heap.size, 9, none⟩ = some (.int .i64 e.hi) := by
            have : e.arr.setIfInBounds 8 (.int .i64 t) = ({ e with lo := t } : Ev).arr := rfl
            rw [this]; exact boxE_cell w _ rfl
          have g9 : ((w.alloc (.cells (e.arr.setIfInBounds 8 (.int .i64 t)) 36)).alloc zeroE).frozen? ⟨w.heap.size, 9, none⟩ = false := by
            have : e.arr.setIfInBounds 8 (.int .i64 t) = ({ e with lo := t } : Ev).arr := rfl
            rw [this]; exact boxE_frozen w _ 9
          have HE := hid (show resE e t = (e', 0) by rw [he']; unfold resE loE hiE; rw [hv, if_neg (by simp), if_pos (.inr h1), if_neg h2])
          clear hArr he' hv
          go_enter Try.func30, Try.ntmps30
          go_wp2_with (first
            | (go_at_call 43; refine (hV _).mono ?_; rintro e w' ⟨rfl, rfl⟩)
            | (refine wpList_load_mid rfl 36 _ rfl _ _ rfl e'.list _ hr' Try.underlying36 rfl (infoE e') ?_)
            | (refine wpList_store_mid rfl 36 _ _ rfl _ _ e'.arr rfl rfl ht' (infoE' e') (Ev.one e') ?_))
          refine bodyPost_ret (ret_cell_tmp rfl rfl rfl (setsE ht') Try.underlying36 rfl (infoE e')) rfl ⟨by rw [HE.out]; rfl, ?_⟩
          exact below_cells (by omega) _ _ _ hb'
      · have hq1 : (e.lo == 0) = false := by simp [h0]
        have hq2 : decide (t < e.lo) = false := decide_eq_false h1
        by_cases h2 : e.hi < t
        · obtain ⟨e', he'⟩ : ∃ e' : Ev, e' = { e with lo := e.lo, hi := t } := ⟨_, rfl⟩
          have hArr : e.arr.setIfInBounds 9 (.int .i64 t) = e'.arr := by subst he'; rfl
          have hr' : ((w.alloc (.cells (e.arr.setIfInBounds 9 (.int .i64 t)) 36)).alloc zeroE).rangeAt w.heap.size 0 e'.list := by rw [hArr]; exact boxE_range w e'
          have ht' : ((w.alloc (.cells (e.arr.setIfInBounds 9 (.int .i64 t)) 36)).alloc zeroE).there (w.heap.size + 1) 0 19 := by rw [hArr]; exact boxE_there w e'
          have hb' : Below w.heap.size w ((w.alloc (.cells (e.arr.setIfInBounds 9 (.int .i64 t)) 36)).alloc zeroE) := by rw [hArr]; exact boxE_below w e'
          have HE := hid (show resE e t = (e', 0) by rw [he']; unfold resE loE hiE; rw [hv, if_neg (by simp), if_neg (by omega), if_pos h2])
          clear hArr he' hv
          go_enter Try.func30, Try.ntmps30
          go_wp2_with (first
            | (go_at_call 43; refine (hV _).mono ?_; rintro e w' ⟨rfl, rfl⟩)
            | (refine wpList_load_mid rfl 36 _ rfl _ _ rfl e'.list _ hr' Try.underlying36 rfl (infoE e') ?_)
            | (refine wpList_store_mid rfl 36 _ _ rfl _ _ e'.arr rfl rfl ht' (infoE' e') (Ev.one e') ?_))
          refine bodyPost_ret (ret_cell_tmp rfl rfl rfl (setsE ht') Try.underlying36 rfl (infoE e')) rfl ⟨by rw [HE.out]; rfl, ?_⟩
          exact below_cells (by omega) _ _ _ hb'
        · obtain ⟨e', he'⟩ : ∃ e' : Ev, e' = { e with lo := e.lo, hi := e.hi } := ⟨_, rfl⟩
          have hArr : e.arr = e'.arr := by subst he'; rfl
          have hr' : ((w.alloc (.cells e.arr 36)).alloc zeroE).rangeAt w.heap.size 0 e'.list := by rw [hArr]; exact boxE_range w e'
          have ht' : ((w.alloc (.cells e.arr 36)).alloc zeroE).there (w.heap.size + 1) 0 19 := by rw [hArr]; exact boxE_there w e'
          have hb' : Below w.heap.size w ((w.alloc (.cells e.arr 36)).alloc zeroE) := by rw [hArr]; exact boxE_below w e'
          have HE := hid (show resE e t = (e', 0) by rw [he']; unfold resE loE hiE; rw [hv, if_neg (by simp), if_neg (by omega), if_neg h2])
          clear hArr he' hv
          go_enter Try.func30, Try.ntmps30
          go_wp2_with (first
            | (go_at_call 43; refine (hV _).mono ?_; rintro e w' ⟨rfl, rfl⟩)
            | (refine wpList_load_mid rfl 36 _ rfl _ _ rfl e'.list _ hr' Try.underlying36 rfl (infoE e') ?_)
            | (refine wpList_store_mid rfl 36 _ _ rfl _ _ e'.arr rfl rfl ht' (infoE' e') (Ev.one e') ?_))
          refine bodyPost_ret (ret_cell_tmp rfl rfl rfl (setsE ht') Try.underlying36 rfl (infoE e')) rfl ⟨by rw [HE.out]; rfl, ?_⟩
          exact below_cells (by omega) _ _ _ hb'

end Go.Proofs.Ytmndjdaiailgmaa
