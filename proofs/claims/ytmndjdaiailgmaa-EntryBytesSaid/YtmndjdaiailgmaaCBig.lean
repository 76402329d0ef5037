/- Entries by value, the program's own type: loads, stores; its Promise, Ahead, Holds. -/
import Derived.Test.YtmndjdaiailgmaaCEnt
import Derived.Test.YtmndjdaiailgmaaObj
namespace Go.Proofs.Ytmndjdaiailgmaa
set_option linter.unusedVariables false
open Go.RowKit
open Go.Lib (hid)

abbrev boxEc (w : World) (e : Ev) : World := (w.alloc (.cells e.arr 30)).alloc zeroEc
theorem boxEc_range (w : World) (e : Ev) : (boxEc w e).rangeAt w.heap.size 0 e.list := World.rangeAt_alloc (rangeNew w e _) _
theorem boxEc_there (w : World) (e : Ev) : (boxEc w e).there (w.heap.size + 1) 0 19 := by
  have := thereNew (w.alloc (.cells e.arr 30)) #[.int .i64 0, .int .i64 0, .int .i64 0, .int .i64 0, .int .i64 0, .int .i64 0, .int .i64 0, .int .i64 0, .int .i64 0, .int .i64 0, .int .i64 0, .slice none 0 0, .int .i64 0, .int .i64 0, .slice none 0 0, .bool false, .bool false, .int .i64 0, .slice none 0 0] 30 19 (by decide)
  rwa [World.size_alloc] at this
theorem boxEc_frozen (w : World) (e : Ev) (j : Nat) : (boxEc w e).frozen? ⟨w.heap.size, j, none⟩ = false := by
  have h : (boxEc w e).heap[w.heap.size]? = some (.cells e.arr 30) := (Below.heap_alloc _ _ _ (by simp)).trans (heap_alloc_new w _)
  exact frozenAt h j
theorem boxEc_below (w : World) (e : Ev) : Below w.heap.size w (boxEc w e) := ((Below.refl _ w).alloc (Nat.le_refl _) _).alloc (by simp) _
theorem boxEc_cell (w : World) (e : Ev) {j : Nat} {v : Value} (h : e.list[j]? = some v) : (boxEc w e).cell? ⟨w.heap.size, j, none⟩ = some v := by
  have := boxEc_range w e j v h; rwa [Nat.zero_add] at this

set_option maxHeartbeats 1600000 in
set_option maxRecDepth 100000 in
theorem cPromise (e : Ev) (b : Int) (w : World) : Calls Try.prog 25 #[.agg e.arr, .int .i64 b] w fun x w' => x = .returned (.tuple #[.agg (promE e b).1.arr, .int .i64 (promE e b).2]) ∧ Below w.heap.size w w' := by
  have hB := fun W => cBallot b W
  have hr := boxEc_range w e
  have ht := boxEc_there w e
  have c7 : (boxEc w e).cell? ⟨w.heap.size, 7, none⟩ = some (.int .i64 e.pr) := by have := hr 7 _ rfl; rwa [Nat.zero_add] at this
  have f7 := boxEc_frozen w e 7
  rcases hb : withinB b 1048576 with _ | _
  · rw [hb] at hB
    have HE := hid (show promE e b = (e, 1) by unfold promE; rw [hb]; rfl)
    clear hb
    go_enter Try.func25, Try.ntmps25
    go_wp2_with (first
      | (go_at_call 18; refine (hB _).mono ?_; rintro e w' ⟨rfl, rfl⟩)
      | (refine wpList_load_mid rfl 30 _ rfl _ _ rfl e.list _ hr Try.underlying30 rfl (infoEc e) ?_)
      | (refine wpList_store_mid rfl 30 _ _ rfl _ _ e.arr rfl rfl ht (infoEc' e) (Ev.one e) ?_))
    refine bodyPost_ret (ret_cell_tmp rfl rfl rfl (setsE ht) Try.underlying30 rfl (infoEc e)) rfl ⟨by rw [HE.out]; rfl, ?_⟩
    exact below_cells (by omega) _ _ _ (boxEc_below w e)
  · rw [hb] at hB
    by_cases h1 : b < e.pr
    · have HE := hid (show promE e b = (e, 11) by unfold promE; rw [hb, if_neg (by simp), if_pos h1])
      clear hb
      go_enter Try.func25, Try.ntmps25
      go_wp2_with (first
        | (go_at_call 18; refine (hB _).mono ?_; rintro e w' ⟨rfl, rfl⟩)
        | (refine wpList_load_mid rfl 30 _ rfl _ _ rfl e.list _ hr Try.underlying30 rfl (infoEc e) ?_)
        | (refine wpList_store_mid rfl 30 _ _ rfl _ _ e.arr rfl rfl ht (infoEc' e) (Ev.one e) ?_))
      refine bodyPost_ret (ret_cell_tmp rfl rfl rfl (setsE ht) Try.underlying30 rfl (infoEc e)) rfl ⟨by rw [HE.out]; rfl, ?_⟩
      exact below_cells (by omega) _ _ _ (boxEc_below w e)
    · have HE := hid (show promE e b = ({ e with pr := b }, 0) by unfold promE; rw [hb, if_neg (by simp), if_neg h1])
      clear hb
      obtain ⟨e', he'⟩ : ∃ e' : Ev, e' = { e with pr := b } := ⟨_, rfl⟩
      have hArr : e.arr.setIfInBounds 7 (.int .i64 b) = e'.arr := by rw [he']; rfl
      have hr' : ((w.alloc (.cells (e.arr.setIfInBounds 7 (.int .i64 b)) 30)).alloc zeroEc).rangeAt w.heap.size 0 e'.list := by rw [hArr]; exact boxEc_range w e'
      have ht' : ((w.alloc (.cells (e.arr.setIfInBounds 7 (.int .i64 b)) 30)).alloc zeroEc).there (w.heap.size + 1) 0 19 := by rw [hArr]; exact boxEc_there w e'
      have hb' : Below w.heap.size w ((w.alloc (.cells (e.arr.setIfInBounds 7 (.int .i64 b)) 30)).alloc zeroEc) := by rw [hArr]; exact boxEc_below w e'
      have HE' := hid he'
      clear hArr he'
      go_enter Try.func25, Try.ntmps25
      go_wp2_with (first
        | (go_at_call 18; refine (hB _).mono ?_; rintro e w' ⟨rfl, rfl⟩)
        | (refine wpList_load_mid rfl 30 _ rfl _ _ rfl e'.list _ hr' Try.underlying30 rfl (infoEc e') ?_)
        | (refine wpList_store_mid rfl 30 _ _ rfl _ _ e'.arr rfl rfl ht' (infoEc' e') (Ev.one e') ?_))
      refine bodyPost_ret (ret_cell_tmp rfl rfl rfl (setsE ht') Try.underlying30 rfl (infoEc e')) rfl ⟨by rw [HE.out, ← HE'.out]; rfl, ?_⟩
      exact below_cells (by omega) _ _ _ hb'
set_option maxHeartbeats 1600000 in
set_option maxRecDepth 100000 in
theorem cAheadE (e : Ev) (t : Int) (w : World) : Calls Try.prog 26 #[.agg e.arr, .int .i64 t] w fun x w' => x = .returned (.bool (aheadE e t)) ∧ Below w.heap.size w w' := by
  have c8 := newE_cell w e 30 (j := 8) rfl
  have c16 := newE_cell w e 30 (j := 16) rfl
  have c17 := newE_cell w e 30 (j := 17) rfl
  have hb : Below w.heap.size w (w.alloc (.cells e.arr 30)) := (Below.refl _ w).alloc (Nat.le_refl _) _
  rcases hd : e.dn with _ | _
  · rw [hd] at c16
    have HE := hid (show aheadE e t = (!decide (e.lo = 0) && decide (e.lo < t)) by unfold aheadE; rw [hd]; rfl)
    clear hd
    by_cases h0 : e.lo = 0
    · go_enter Try.func26, Try.ntmps26
      go_wp2
      go_ret
      exact ⟨ret_bool (by rw [HE.out]; simp [h0]), hb⟩
    · go_enter Try.func26, Try.ntmps26
      go_wp2
      go_ret
      exact ⟨ret_bool (by rw [HE.out]; simp [h0]), hb⟩
  · rw [hd] at c16
    have HE := hid (show aheadE e t = decide (e.vt < t) by unfold aheadE; rw [hd]; rfl)
    clear hd
    go_enter Try.func26, Try.ntmps26
    go_wp2
    go_ret
    exact ⟨ret_bool (by rw [HE.out]), hb⟩

set_option maxHeartbeats 1600000 in
set_option maxRecDepth 100000 in
theorem cHoldsE (e : Ev) (t : Int) (w : World) : Calls Try.prog 27 #[.agg e.arr, .int .i64 t] w fun x w' => x = .returned (.bool (holdsE e t)) ∧ Below w.heap.size w w' := by
  have c9 := newE_cell w e 30 (j := 9) rfl
  have c16 := newE_cell w e 30 (j := 16) rfl
  have hb : Below w.heap.size w (w.alloc (.cells e.arr 30)) := (Below.refl _ w).alloc (Nat.le_refl _) _
  rcases hd : e.dn with _ | _
  all_goals (
    rw [hd] at c16
    have HE := hid (show holdsE e t = (!e.dn && decide (t < e.hi)) from rfl)
    rw [hd] at HE
    clear hd
    go_enter Try.func27, Try.ntmps27
    go_wp2
    go_ret
    exact ⟨ret_bool (by rw [HE.out]; simp), hb⟩)
end Go.Proofs.Ytmndjdaiailgmaa
