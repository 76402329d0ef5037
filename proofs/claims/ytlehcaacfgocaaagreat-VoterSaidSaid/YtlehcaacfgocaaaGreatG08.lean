import Derived.Test.YtlehcaacfgocaaaGreatG07
namespace Go.Proofs.YtlehcaacfgocaaaGreat
set_option linter.unusedVariables false
open Go.RowKit Go.Sort
open Go.Lib (hid)
set_option maxHeartbeats 8000000 in
set_option maxRecDepth 100000 in
theorem cRight_0 {e : Ev} {w : World} {bn : Bool} (hO : ∀ (W : World) (v : Value), Sl W v [e.c] → Calls Tryz.prog 64 #[v] W fun x w' => x = .returned (.bool false) ∧ Below W.heap.size W w') :
    Calls Tryz.prog 58 #[.agg e.arr] w fun x w' => x = .returned (.bool false) ∧ Below w.heap.size w w' := by
  have HX : Hid (Ob ((w.alloc (.cells e.arr 67)).drew) w.heap.size 67 e) := hid (obDrew (heap_alloc_new w _))
  have HW : Hid (Below w.heap.size w ((w.alloc (.cells e.arr 67)).drew)) := hid (belowDrew ((Below.refl _ w).alloc (Nat.le_refl _) _))
  have c0 : ((w.alloc (.cells e.arr 67)).drew).cell? ⟨w.heap.size, 0, none⟩ = some (.int .i64 e.c.i) := HX.out.cell (j := 0) rfl
  have c1 : ((w.alloc (.cells e.arr 67)).drew).cell? ⟨w.heap.size, 1, none⟩ = some (.int .i64 e.c.k) := HX.out.cell (j := 1) rfl
  have c2 : ((w.alloc (.cells e.arr 67)).drew).cell? ⟨w.heap.size, 2, none⟩ = some (.int .i64 e.c.s) := HX.out.cell (j := 2) rfl
  have c3 : ((w.alloc (.cells e.arr 67)).drew).cell? ⟨w.heap.size, 3, none⟩ = some (.int .i64 e.c.t) := HX.out.cell (j := 3) rfl
  have c4 : ((w.alloc (.cells e.arr 67)).drew).cell? ⟨w.heap.size, 4, none⟩ = some (.int .i64 e.c.d) := HX.out.cell (j := 4) rfl
  have c5 : ((w.alloc (.cells e.arr 67)).drew).cell? ⟨w.heap.size, 5, none⟩ = some (.int .i64 e.c.p) := HX.out.cell (j := 5) rfl
  have c6 : ((w.alloc (.cells e.arr 67)).drew).cell? ⟨w.heap.size, 6, none⟩ = some (.int .i64 e.c.q) := HX.out.cell (j := 6) rfl
  have HS : Hid (Sl ((w.alloc (.cells e.arr 67)).alloc (.cells #[.int .i64 e.c.i, .int .i64 e.c.k, .int .i64 e.c.s, .int .i64 e.c.t, .int .i64 e.c.d, .int .i64 e.c.p, .int .i64 e.c.q] 45)).drew (.slice (some ⟨w.heap.size + 1, 0, none⟩) 1 1) [e.c]) := hid ((Sl.madeC (c := e.c) (T := 45) (W := (w.alloc (.cells e.arr 67))) (by simp)).on (belowDrew (Below.refl _ _)))
  have HBe : Hid (Below w.heap.size w ((w.alloc (.cells e.arr 67)).alloc (.cells #[.int .i64 e.c.i, .int .i64 e.c.k, .int .i64 e.c.s, .int .i64 e.c.t, .int .i64 e.c.d, .int .i64 e.c.p, .int .i64 e.c.q] 45)).drew) := hid (belowDrew (((Below.refl _ w).alloc (Nat.le_refl _) _).alloc (by simp) _))
  have HO : Hid _ := hid hO
  clear hO
  go_enter Tryz.func58, Tryz.ntmps58
  go_wp2_with fail
  refine wp_region_any (by kernel_rfl) ?_
  change wpAny _ _ _ _ _ _ _ (World.drew _)
  refine wpAny_ready (rs := [0]) (by kernel_rfl) (by simp) ?_
  refine AllReady.cons rfl (fun K hK => ?_) AllReady.nil
  go_simp
  refine hK _ _ ?_
  clear hK K
  refine wpAny_ready (rs := [1]) (by kernel_rfl) (by simp) ?_
  refine AllReady.cons rfl (fun K hK => ?_) AllReady.nil
  go_simp
  refine hK _ _ ?_
  clear hK K
  refine wpAny_ready (rs := [2]) (by kernel_rfl) (by simp) ?_
  refine AllReady.cons rfl (fun K hK => ?_) AllReady.nil
  go_simp
  refine hK _ _ ?_
  clear hK K
  refine wpAny_ready (rs := [3]) (by kernel_rfl) (by simp) ?_
  refine AllReady.cons rfl (fun K hK => ?_) AllReady.nil
  go_simp
  go_at_call 64
  refine (HO.out _ _ HS.out).mono ?_
  rintro x w1 ⟨rfl, hB⟩
  refine hK _ _ ?_
  clear hK K
  have HX1 : Hid (Ob w1 w.heap.size 67 e) := hid (heapB (obAlloc HX.out : _) hB (Array.getElem?_eq_some_iff.1 (obAlloc HX.out)).1)
  have HB : Hid (Below w.heap.size w w1) := hid (HBe.out.trans (hB.mono HBe.out.size))
  clear hB c0 c1 c2 c3 c4 c5 c6 HX HS
  refine wpAny_rest4 rfl (by kernel_rfl) (by kernel_rfl) ?_
  repeat (go_big_quiet_step (fail))
  refine wpQuiet_nil ?_
  rintro _ ⟨⟨dq, osq⟩, rfl⟩
  go_wp2
  go_ret
  exact ⟨rfl, HB.out.trans ((below_regrown w1 dq osq).mono HB.out.size)⟩
set_option maxHeartbeats 8000000 in
set_option maxRecDepth 100000 in
theorem cRight_1 {e : Ev} {w : World} {bn : Bool} (hO : ∀ (W : World) (v : Value), Sl W v [e.c] → Calls Tryz.prog 64 #[v] W fun x w' => x = .returned (.bool true) ∧ Below W.heap.size W w') (H1 : ∀ W, Below w.heap.size w W → Calls Tryz.prog 102 #[.int .i64 e.pr] W fun x w' => x = .returned (.bool false) ∧ Below W.heap.size W w') :
    Calls Tryz.prog 58 #[.agg e.arr] w fun x w' => x = .returned (.bool false) ∧ Below w.heap.size w w' := by
  have HX : Hid (Ob ((w.alloc (.cells e.arr 67)).drew) w.heap.size 67 e) := hid (obDrew (heap_alloc_new w _))
  have HW : Hid (Below w.heap.size w ((w.alloc (.cells e.arr 67)).drew)) := hid (belowDrew ((Below.refl _ w).alloc (Nat.le_refl _) _))
  have c0 : ((w.alloc (.cells e.arr 67)).drew).cell? ⟨w.heap.size, 0, none⟩ = some (.int .i64 e.c.i) := HX.out.cell (j := 0) rfl
  have c1 : ((w.alloc (.cells e.arr 67)).drew).cell? ⟨w.heap.size, 1, none⟩ = some (.int .i64 e.c.k) := HX.out.cell (j := 1) rfl
  have c2 : ((w.alloc (.cells e.arr 67)).drew).cell? ⟨w.heap.size, 2, none⟩ = some (.int .i64 e.c.s) := HX.out.cell (j := 2) rfl
  have c3 : ((w.alloc (.cells e.arr 67)).drew).cell? ⟨w.heap.size, 3, none⟩ = some (.int .i64 e.c.t) := HX.out.cell (j := 3) rfl
  have c4 : ((w.alloc (.cells e.arr 67)).drew).cell? ⟨w.heap.size, 4, none⟩ = some (.int .i64 e.c.d) := HX.out.cell (j := 4) rfl
  have c5 : ((w.alloc (.cells e.arr 67)).drew).cell? ⟨w.heap.size, 5, none⟩ = some (.int .i64 e.c.p) := HX.out.cell (j := 5) rfl
  have c6 : ((w.alloc (.cells e.arr 67)).drew).cell? ⟨w.heap.size, 6, none⟩ = some (.int .i64 e.c.q) := HX.out.cell (j := 6) rfl
  have HS : Hid (Sl ((w.alloc (.cells e.arr 67)).alloc (.cells #[.int .i64 e.c.i, .int .i64 e.c.k, .int .i64 e.c.s, .int .i64 e.c.t, .int .i64 e.c.d, .int .i64 e.c.p, .int .i64 e.c.q] 45)).drew (.slice (some ⟨w.heap.size + 1, 0, none⟩) 1 1) [e.c]) := hid ((Sl.madeC (c := e.c) (T := 45) (W := (w.alloc (.cells e.arr 67))) (by simp)).on (belowDrew (Below.refl _ _)))
  have HBe : Hid (Below w.heap.size w ((w.alloc (.cells e.arr 67)).alloc (.cells #[.int .i64 e.c.i, .int .i64 e.c.k, .int .i64 e.c.s, .int .i64 e.c.t, .int .i64 e.c.d, .int .i64 e.c.p, .int .i64 e.c.q] 45)).drew) := hid (belowDrew (((Below.refl _ w).alloc (Nat.le_refl _) _).alloc (by simp) _))
  have HO : Hid _ := hid hO
  clear hO
  have G1 : Hid _ := hid H1
  clear H1
  go_enter Tryz.func58, Tryz.ntmps58
  go_wp2_with fail
  refine wp_region_any (by kernel_rfl) ?_
  change wpAny _ _ _ _ _ _ _ (World.drew _)
  refine wpAny_ready (rs := [0]) (by kernel_rfl) (by simp) ?_
  refine AllReady.cons rfl (fun K hK => ?_) AllReady.nil
  go_simp
  refine hK _ _ ?_
  clear hK K
  refine wpAny_ready (rs := [1]) (by kernel_rfl) (by simp) ?_
  refine AllReady.cons rfl (fun K hK => ?_) AllReady.nil
  go_simp
  refine hK _ _ ?_
  clear hK K
  refine wpAny_ready (rs := [2]) (by kernel_rfl) (by simp) ?_
  refine AllReady.cons rfl (fun K hK => ?_) AllReady.nil
  go_simp
  refine hK _ _ ?_
  clear hK K
  refine wpAny_ready (rs := [3]) (by kernel_rfl) (by simp) ?_
  refine AllReady.cons rfl (fun K hK => ?_) AllReady.nil
  go_simp
  go_at_call 64
  refine (HO.out _ _ HS.out).mono ?_
  rintro x w1 ⟨rfl, hB⟩
  refine hK _ _ ?_
  clear hK K
  have HX1 : Hid (Ob w1 w.heap.size 67 e) := hid (heapB (obAlloc HX.out : _) hB (Array.getElem?_eq_some_iff.1 (obAlloc HX.out)).1)
  have HB : Hid (Below w.heap.size w w1) := hid (HBe.out.trans (hB.mono HBe.out.size))
  clear hB c0 c1 c2 c3 c4 c5 c6 HX HS
  have q7 : ∀ (d : Nat) (os : Array Obj), (grow (redrawn w1 d) os).cell? ⟨w.heap.size, 7, none⟩ = some (.int .i64 e.pr) := fun d os => cell_regrown (HX1.out.cell (j := 7) rfl) d os
  have hq1 := quietB (w1 := w1) (fun W hW => G1.out W (HB.out.trans (hW.mono HB.out.size)))
  refine wpAny_rest4 rfl (by kernel_rfl) (by kernel_rfl) ?_
  repeat (go_big_quiet_step (first | with_reducible exact hq1 _ _))
  refine wpQuiet_nil ?_
  rintro _ ⟨⟨dq, osq⟩, rfl⟩
  go_wp2
  go_ret
  exact ⟨rfl, HB.out.trans ((below_regrown w1 dq osq).mono HB.out.size)⟩
set_option maxHeartbeats 8000000 in
set_option maxRecDepth 100000 in
theorem cRight_2 {e : Ev} {w : World} {bn : Bool} (hO : ∀ (W : World) (v : Value), Sl W v [e.c] → Calls Tryz.prog 64 #[v] W fun x w' => x = .returned (.bool true) ∧ Below W.heap.size W w') (H1 : ∀ W, Below w.heap.size w W → Calls Tryz.prog 102 #[.int .i64 e.pr] W fun x w' => x = .returned (.bool true) ∧ Below W.heap.size W w') (H2 : ∀ W, Below w.heap.size w W → Calls Tryz.prog 102 #[.int .i64 e.ab] W fun x w' => x = .returned (.bool false) ∧ Below W.heap.size W w') :
    Calls Tryz.prog 58 #[.agg e.arr] w fun x w' => x = .returned (.bool false) ∧ Below w.heap.size w w' := by
  have HX : Hid (Ob ((w.alloc (.cells e.arr 67)).drew) w.heap.size 67 e) := hid (obDrew (heap_alloc_new w _))
  have HW : Hid (Below w.heap.size w ((w.alloc (.cells e.arr 67)).drew)) := hid (belowDrew ((Below.refl _ w).alloc (Nat.le_refl _) _))
  have c0 : ((w.alloc (.cells e.arr 67)).drew).cell? ⟨w.heap.size, 0, none⟩ = some (.int .i64 e.c.i) := HX.out.cell (j := 0) rfl
  have c1 : ((w.alloc (.cells e.arr 67)).drew).cell? ⟨w.heap.size, 1, none⟩ = some (.int .i64 e.c.k) := HX.out.cell (j := 1) rfl
  have c2 : ((w.alloc (.cells e.arr 67)).drew).cell? ⟨w.heap.size, 2, none⟩ = some (.int .i64 e.c.s) := HX.out.cell (j := 2) rfl
  have c3 : ((w.alloc (.cells e.arr 67)).drew).cell? ⟨w.heap.size, 3, none⟩ = some (.int .i64 e.c.t) := HX.out.cell (j := 3) rfl
  have c4 : ((w.alloc (.cells e.arr 67)).drew).cell? ⟨w.heap.size, 4, none⟩ = some (.int .i64 e.c.d) := HX.out.cell (j := 4) rfl
  have c5 : ((w.alloc (.cells e.arr 67)).drew).cell? ⟨w.heap.size, 5, none⟩ = some (.int .i64 e.c.p) := HX.out.cell (j := 5) rfl
  have c6 : ((w.alloc (.cells e.arr 67)).drew).cell? ⟨w.heap.size, 6, none⟩ = some (.int .i64 e.c.q) := HX.out.cell (j := 6) rfl
  have HS : Hid (Sl ((w.alloc (.cells e.arr 67)).alloc (.cells #[.int .i64 e.c.i, .int .i64 e.c.k, .int .i64 e.c.s, .int .i64 e.c.t, .int .i64 e.c.d, .int .i64 e.c.p, .int .i64 e.c.q] 45)).drew (.slice (some ⟨w.heap.size + 1, 0, none⟩) 1 1) [e.c]) := hid ((Sl.madeC (c := e.c) (T := 45) (W := (w.alloc (.cells e.arr 67))) (by simp)).on (belowDrew (Below.refl _ _)))
  have HBe : Hid (Below w.heap.size w ((w.alloc (.cells e.arr 67)).alloc (.cells #[.int .i64 e.c.i, .int .i64 e.c.k, .int .i64 e.c.s, .int .i64 e.c.t, .int .i64 e.c.d, .int .i64 e.c.p, .int .i64 e.c.q] 45)).drew) := hid (belowDrew (((Below.refl _ w).alloc (Nat.le_refl _) _).alloc (by simp) _))
  have HO : Hid _ := hid hO
  clear hO
  have G1 : Hid _ := hid H1
  have G2 : Hid _ := hid H2
  clear H1 H2
  go_enter Tryz.func58, Tryz.ntmps58
  go_wp2_with fail
  refine wp_region_any (by kernel_rfl) ?_
  change wpAny _ _ _ _ _ _ _ (World.drew _)
  refine wpAny_ready (rs := [0]) (by kernel_rfl) (by simp) ?_
  refine AllReady.cons rfl (fun K hK => ?_) AllReady.nil
  go_simp
  refine hK _ _ ?_
  clear hK K
  refine wpAny_ready (rs := [1]) (by kernel_rfl) (by simp) ?_
  refine AllReady.cons rfl (fun K hK => ?_) AllReady.nil
  go_simp
  refine hK _ _ ?_
  clear hK K
  refine wpAny_ready (rs := [2]) (by kernel_rfl) (by simp) ?_
  refine AllReady.cons rfl (fun K hK => ?_) AllReady.nil
  go_simp
  refine hK _ _ ?_
  clear hK K
  refine wpAny_ready (rs := [3]) (by kernel_rfl) (by simp) ?_
  refine AllReady.cons rfl (fun K hK => ?_) AllReady.nil
  go_simp
  go_at_call 64
  refine (HO.out _ _ HS.out).mono ?_
  rintro x w1 ⟨rfl, hB⟩
  refine hK _ _ ?_
  clear hK K
  have HX1 : Hid (Ob w1 w.heap.size 67 e) := hid (heapB (obAlloc HX.out : _) hB (Array.getElem?_eq_some_iff.1 (obAlloc HX.out)).1)
  have HB : Hid (Below w.heap.size w w1) := hid (HBe.out.trans (hB.mono HBe.out.size))
  clear hB c0 c1 c2 c3 c4 c5 c6 HX HS
  have q7 : ∀ (d : Nat) (os : Array Obj), (grow (redrawn w1 d) os).cell? ⟨w.heap.size, 7, none⟩ = some (.int .i64 e.pr) := fun d os => cell_regrown (HX1.out.cell (j := 7) rfl) d os
  have q12 : ∀ (d : Nat) (os : Array Obj), (grow (redrawn w1 d) os).cell? ⟨w.heap.size, 12, none⟩ = some (.int .i64 e.ab) := fun d os => cell_regrown (HX1.out.cell (j := 12) rfl) d os
  have hq1 := quietB (w1 := w1) (fun W hW => G1.out W (HB.out.trans (hW.mono HB.out.size)))
  have hq2 := quietB (w1 := w1) (fun W hW => G2.out W (HB.out.trans (hW.mono HB.out.size)))
  refine wpAny_rest4 rfl (by kernel_rfl) (by kernel_rfl) ?_
  repeat (go_big_quiet_step (first | with_reducible exact hq1 _ _ | with_reducible exact hq2 _ _))
  refine wpQuiet_nil ?_
  rintro _ ⟨⟨dq, osq⟩, rfl⟩
  go_wp2
  go_ret
  exact ⟨rfl, HB.out.trans ((below_regrown w1 dq osq).mono HB.out.size)⟩
set_option maxHeartbeats 8000000 in
set_option maxRecDepth 100000 in
theorem cRight_3 {e : Ev} {w : World} {bn : Bool} (hO : ∀ (W : World) (v : Value), Sl W v [e.c] → Calls Tryz.prog 64 #[v] W fun x w' => x = .returned (.bool true) ∧ Below W.heap.size W w') (H1 : ∀ W, Below w.heap.size w W → Calls Tryz.prog 102 #[.int .i64 e.pr] W fun x w' => x = .returned (.bool true) ∧ Below W.heap.size W w') (H2 : ∀ W, Below w.heap.size w W → Calls Tryz.prog 102 #[.int .i64 e.ab] W fun x w' => x = .returned (.bool true) ∧ Below W.heap.size W w') (H3 : ∀ W, Below w.heap.size w W → Calls Tryz.prog 103 #[.int .i64 e.lo, .int .i64 e.hi] W fun x w' => x = .returned (.bool false) ∧ Below W.heap.size W w') :
    Calls Tryz.prog 58 #[.agg e.arr] w fun x w' => x = .returned (.bool false) ∧ Below w.heap.size w w' := by
  have HX : Hid (Ob ((w.alloc (.cells e.arr 67)).drew) w.heap.size 67 e) := hid (obDrew (heap_alloc_new w _))
  have HW : Hid (Below w.heap.size w ((w.alloc (.cells e.arr 67)).drew)) := hid (belowDrew ((Below.refl _ w).alloc (Nat.le_refl _) _))
  have c0 : ((w.alloc (.cells e.arr 67)).drew).cell? ⟨w.heap.size, 0, none⟩ = some (.int .i64 e.c.i) := HX.out.cell (j := 0) rfl
  have c1 : ((w.alloc (.cells e.arr 67)).drew).cell? ⟨w.heap.size, 1, none⟩ = some (.int .i64 e.c.k) := HX.out.cell (j := 1) rfl
  have c2 : ((w.alloc (.cells e.arr 67)).drew).cell? ⟨w.heap.size, 2, none⟩ = some (.int .i64 e.c.s) := HX.out.cell (j := 2) rfl
  have c3 : ((w.alloc (.cells e.arr 67)).drew).cell? ⟨w.heap.size, 3, none⟩ = some (.int .i64 e.c.t) := HX.out.cell (j := 3) rfl
  have c4 : ((w.alloc (.cells e.arr 67)).drew).cell? ⟨w.heap.size, 4, none⟩ = some (.int .i64 e.c.d) := HX.out.cell (j := 4) rfl
  have c5 : ((w.alloc (.cells e.arr 67)).drew).cell? ⟨w.heap.size, 5, none⟩ = some (.int .i64 e.c.p) := HX.out.cell (j := 5) rfl
  have c6 : ((w.alloc (.cells e.arr 67)).drew).cell? ⟨w.heap.size, 6, none⟩ = some (.int .i64 e.c.q) := HX.out.cell (j := 6) rfl
  have HS : Hid (Sl ((w.alloc (.cells e.arr 67)).alloc (.cells #[.int .i64 e.c.i, .int .i64 e.c.k, .int .i64 e.c.s, .int .i64 e.c.t, .int .i64 e.c.d, .int .i64 e.c.p, .int .i64 e.c.q] 45)).drew (.slice (some ⟨w.heap.size + 1, 0, none⟩) 1 1) [e.c]) := hid ((Sl.madeC (c := e.c) (T := 45) (W := (w.alloc (.cells e.arr 67))) (by simp)).on (belowDrew (Below.refl _ _)))
  have HBe : Hid (Below w.heap.size w ((w.alloc (.cells e.arr 67)).alloc (.cells #[.int .i64 e.c.i, .int .i64 e.c.k, .int .i64 e.c.s, .int .i64 e.c.t, .int .i64 e.c.d, .int .i64 e.c.p, .int .i64 e.c.q] 45)).drew) := hid (belowDrew (((Below.refl _ w).alloc (Nat.le_refl _) _).alloc (by simp) _))
  have HO : Hid _ := hid hO
  clear hO
  have G1 : Hid _ := hid H1
  have G2 : Hid _ := hid H2
  have G3 : Hid _ := hid H3
  clear H1 H2 H3
  go_enter Tryz.func58, Tryz.ntmps58
  go_wp2_with fail
  refine wp_region_any (by kernel_rfl) ?_
  change wpAny _ _ _ _ _ _ _ (World.drew _)
  refine wpAny_ready (rs := [0]) (by kernel_rfl) (by simp) ?_
  refine AllReady.cons rfl (fun K hK => ?_) AllReady.nil
  go_simp
  refine hK _ _ ?_
  clear hK K
  refine wpAny_ready (rs := [1]) (by kernel_rfl) (by simp) ?_
  refine AllReady.cons rfl (fun K hK => ?_) AllReady.nil
  go_simp
  refine hK _ _ ?_
  clear hK K
  refine wpAny_ready (rs := [2]) (by kernel_rfl) (by simp) ?_
  refine AllReady.cons rfl (fun K hK => ?_) AllReady.nil
  go_simp
  refine hK _ _ ?_
  clear hK K
  refine wpAny_ready (rs := [3]) (by kernel_rfl) (by simp) ?_
  refine AllReady.cons rfl (fun K hK => ?_) AllReady.nil
  go_simp
  go_at_call 64
  refine (HO.out _ _ HS.out).mono ?_
  rintro x w1 ⟨rfl, hB⟩
  refine hK _ _ ?_
  clear hK K
  have HX1 : Hid (Ob w1 w.heap.size 67 e) := hid (heapB (obAlloc HX.out : _) hB (Array.getElem?_eq_some_iff.1 (obAlloc HX.out)).1)
  have HB : Hid (Below w.heap.size w w1) := hid (HBe.out.trans (hB.mono HBe.out.size))
  clear hB c0 c1 c2 c3 c4 c5 c6 HX HS
  have q7 : ∀ (d : Nat) (os : Array Obj), (grow (redrawn w1 d) os).cell? ⟨w.heap.size, 7, none⟩ = some (.int .i64 e.pr) := fun d os => cell_regrown (HX1.out.cell (j := 7) rfl) d os
  have q8 : ∀ (d : Nat) (os : Array Obj), (grow (redrawn w1 d) os).cell? ⟨w.heap.size, 8, none⟩ = some (.int .i64 e.lo) := fun d os => cell_regrown (HX1.out.cell (j := 8) rfl) d os
  have q9 : ∀ (d : Nat) (os : Array Obj), (grow (redrawn w1 d) os).cell? ⟨w.heap.size, 9, none⟩ = some (.int .i64 e.hi) := fun d os => cell_regrown (HX1.out.cell (j := 9) rfl) d os
  have q12 : ∀ (d : Nat) (os : Array Obj), (grow (redrawn w1 d) os).cell? ⟨w.heap.size, 12, none⟩ = some (.int .i64 e.ab) := fun d os => cell_regrown (HX1.out.cell (j := 12) rfl) d os
  have hq1 := quietB (w1 := w1) (fun W hW => G1.out W (HB.out.trans (hW.mono HB.out.size)))
  have hq2 := quietB (w1 := w1) (fun W hW => G2.out W (HB.out.trans (hW.mono HB.out.size)))
  have hq3 := quietB (w1 := w1) (fun W hW => G3.out W (HB.out.trans (hW.mono HB.out.size)))
  refine wpAny_rest4 rfl (by kernel_rfl) (by kernel_rfl) ?_
  repeat (go_big_quiet_step (first | with_reducible exact hq1 _ _ | with_reducible exact hq2 _ _ | with_reducible exact hq3 _ _))
  refine wpQuiet_nil ?_
  rintro _ ⟨⟨dq, osq⟩, rfl⟩
  go_wp2
  go_ret
  exact ⟨rfl, HB.out.trans ((below_regrown w1 dq osq).mono HB.out.size)⟩
end Go.Proofs.YtlehcaacfgocaaaGreat
namespace Go.Proofs.YtlehcaacfgocaaaGreat
set_option linter.unusedVariables false
open Go.RowKit Go.Sort
open Go.Lib (hid)
set_option maxHeartbeats 8000000 in
set_option maxRecDepth 100000 in
theorem cRight_4 {e : Ev} {w : World} {bn : Bool} (hO : ∀ (W : World) (v : Value), Sl W v [e.c] → Calls Tryz.prog 64 #[v] W fun x w' => x = .returned (.bool true) ∧ Below W.heap.size W w') (H1 : ∀ W, Below w.heap.size w W → Calls Tryz.prog 102 #[.int .i64 e.pr] W fun x w' => x = .returned (.bool true) ∧ Below W.heap.size W w') (H2 : ∀ W, Below w.heap.size w W → Calls Tryz.prog 102 #[.int .i64 e.ab] W fun x w' => x = .returned (.bool true) ∧ Below W.heap.size W w') (H3 : ∀ W, Below w.heap.size w W → Calls Tryz.prog 103 #[.int .i64 e.lo, .int .i64 e.hi] W fun x w' => x = .returned (.bool true) ∧ Below W.heap.size W w') (H4 : ∀ W, Below w.heap.size w W → Calls Tryz.prog 105 #[.agg #[.int .i64 e.ft, .slice e.fp.a e.fp.n e.fp.c]] W fun x w' => x = .returned (.bool bn) ∧ Below W.heap.size W w') (H5 : ∀ W, Below w.heap.size w W → Calls Tryz.prog 104 #[.agg #[.int .i64 e.ft, .slice e.fp.a e.fp.n e.fp.c], .bool (!bn)] W fun x w' => x = .returned (.bool false) ∧ Below W.heap.size W w') :
    Calls Tryz.prog 58 #[.agg e.arr] w fun x w' => x = .returned (.bool false) ∧ Below w.heap.size w w' := by
  have HX : Hid (Ob ((w.alloc (.cells e.arr 67)).drew) w.heap.size 67 e) := hid (obDrew (heap_alloc_new w _))
  have HW : Hid (Below w.heap.size w ((w.alloc (.cells e.arr 67)).drew)) := hid (belowDrew ((Below.refl _ w).alloc (Nat.le_refl _) _))
  have c0 : ((w.alloc (.cells e.arr 67)).drew).cell? ⟨w.heap.size, 0, none⟩ = some (.int .i64 e.c.i) := HX.out.cell (j := 0) rfl
  have c1 : ((w.alloc (.cells e.arr 67)).drew).cell? ⟨w.heap.size, 1, none⟩ = some (.int .i64 e.c.k) := HX.out.cell (j := 1) rfl
  have c2 : ((w.alloc (.cells e.arr 67)).drew).cell? ⟨w.heap.size, 2, none⟩ = some (.int .i64 e.c.s) := HX.out.cell (j := 2) rfl
  have c3 : ((w.alloc (.cells e.arr 67)).drew).cell? ⟨w.heap.size, 3, none⟩ = some (.int .i64 e.c.t) := HX.out.cell (j := 3) rfl
  have c4 : ((w.alloc (.cells e.arr 67)).drew).cell? ⟨w.heap.size, 4, none⟩ = some (.int .i64 e.c.d) := HX.out.cell (j := 4) rfl
  have c5 : ((w.alloc (.cells e.arr 67)).drew).cell? ⟨w.heap.size, 5, none⟩ = some (.int .i64 e.c.p) := HX.out.cell (j := 5) rfl
  have c6 : ((w.alloc (.cells e.arr 67)).drew).cell? ⟨w.heap.size, 6, none⟩ = some (.int .i64 e.c.q) := HX.out.cell (j := 6) rfl
  have HS : Hid (Sl ((w.alloc (.cells e.arr 67)).alloc (.cells #[.int .i64 e.c.i, .int .i64 e.c.k, .int .i64 e.c.s, .int .i64 e.c.t, .int .i64 e.c.d, .int .i64 e.c.p, .int .i64 e.c.q] 45)).drew (.slice (some ⟨w.heap.size + 1, 0, none⟩) 1 1) [e.c]) := hid ((Sl.madeC (c := e.c) (T := 45) (W := (w.alloc (.cells e.arr 67))) (by simp)).on (belowDrew (Below.refl _ _)))
  have HBe : Hid (Below w.heap.size w ((w.alloc (.cells e.arr 67)).alloc (.cells #[.int .i64 e.c.i, .int .i64 e.c.k, .int .i64 e.c.s, .int .i64 e.c.t, .int .i64 e.c.d, .int .i64 e.c.p, .int .i64 e.c.q] 45)).drew) := hid (belowDrew (((Below.refl _ w).alloc (Nat.le_refl _) _).alloc (by simp) _))
  have HO : Hid _ := hid hO
  clear hO
  have G1 : Hid _ := hid H1
  have G2 : Hid _ := hid H2
  have G3 : Hid _ := hid H3
  have G4 : Hid _ := hid H4
  have G5 : Hid _ := hid H5
  clear H1 H2 H3 H4 H5
  go_enter Tryz.func58, Tryz.ntmps58
  go_wp2_with fail
  refine wp_region_any (by kernel_rfl) ?_
  change wpAny _ _ _ _ _ _ _ (World.drew _)
  refine wpAny_ready (rs := [0]) (by kernel_rfl) (by simp) ?_
  refine AllReady.cons rfl (fun K hK => ?_) AllReady.nil
  go_simp
  refine hK _ _ ?_
  clear hK K
  refine wpAny_ready (rs := [1]) (by kernel_rfl) (by simp) ?_
  refine AllReady.cons rfl (fun K hK => ?_) AllReady.nil
  go_simp
  refine hK _ _ ?_
  clear hK K
  refine wpAny_ready (rs := [2]) (by kernel_rfl) (by simp) ?_
  refine AllReady.cons rfl (fun K hK => ?_) AllReady.nil
  go_simp
  refine hK _ _ ?_
  clear hK K
  refine wpAny_ready (rs := [3]) (by kernel_rfl) (by simp) ?_
  refine AllReady.cons rfl (fun K hK => ?_) AllReady.nil
  go_simp
  go_at_call 64
  refine (HO.out _ _ HS.out).mono ?_
  rintro x w1 ⟨rfl, hB⟩
  refine hK _ _ ?_
  clear hK K
  have HX1 : Hid (Ob w1 w.heap.size 67 e) := hid (heapB (obAlloc HX.out : _) hB (Array.getElem?_eq_some_iff.1 (obAlloc HX.out)).1)
  have HB : Hid (Below w.heap.size w w1) := hid (HBe.out.trans (hB.mono HBe.out.size))
  clear hB c0 c1 c2 c3 c4 c5 c6 HX HS
  have q7 : ∀ (d : Nat) (os : Array Obj), (grow (redrawn w1 d) os).cell? ⟨w.heap.size, 7, none⟩ = some (.int .i64 e.pr) := fun d os => cell_regrown (HX1.out.cell (j := 7) rfl) d os
  have q8 : ∀ (d : Nat) (os : Array Obj), (grow (redrawn w1 d) os).cell? ⟨w.heap.size, 8, none⟩ = some (.int .i64 e.lo) := fun d os => cell_regrown (HX1.out.cell (j := 8) rfl) d os
  have q9 : ∀ (d : Nat) (os : Array Obj), (grow (redrawn w1 d) os).cell? ⟨w.heap.size, 9, none⟩ = some (.int .i64 e.hi) := fun d os => cell_regrown (HX1.out.cell (j := 9) rfl) d os
  have q10 : ∀ (d : Nat) (os : Array Obj), (grow (redrawn w1 d) os).cell? ⟨w.heap.size, 10, none⟩ = some (.int .i64 e.ft) := fun d os => cell_regrown (HX1.out.cell (j := 10) rfl) d os
  have q11 : ∀ (d : Nat) (os : Array Obj), (grow (redrawn w1 d) os).cell? ⟨w.heap.size, 11, none⟩ = some (.slice e.fp.a e.fp.n e.fp.c) := fun d os => cell_regrown (HX1.out.cell (j := 11) rfl) d os
  have q12 : ∀ (d : Nat) (os : Array Obj), (grow (redrawn w1 d) os).cell? ⟨w.heap.size, 12, none⟩ = some (.int .i64 e.ab) := fun d os => cell_regrown (HX1.out.cell (j := 12) rfl) d os
  have hq1 := quietB (w1 := w1) (fun W hW => G1.out W (HB.out.trans (hW.mono HB.out.size)))
  have hq2 := quietB (w1 := w1) (fun W hW => G2.out W (HB.out.trans (hW.mono HB.out.size)))
  have hq3 := quietB (w1 := w1) (fun W hW => G3.out W (HB.out.trans (hW.mono HB.out.size)))
  have hq4 := quietB (w1 := w1) (fun W hW => G4.out W (HB.out.trans (hW.mono HB.out.size)))
  have hq5 := quietB (w1 := w1) (fun W hW => G5.out W (HB.out.trans (hW.mono HB.out.size)))
  refine wpAny_rest4 rfl (by kernel_rfl) (by kernel_rfl) ?_
  repeat (go_big_quiet_step (first | with_reducible exact hq1 _ _ | with_reducible exact hq2 _ _ | with_reducible exact hq3 _ _ | with_reducible exact hq4 _ _ | with_reducible exact hq5 _ _))
  refine wpQuiet_nil ?_
  rintro _ ⟨⟨dq, osq⟩, rfl⟩
  go_wp2
  go_ret
  exact ⟨rfl, HB.out.trans ((below_regrown w1 dq osq).mono HB.out.size)⟩
set_option maxHeartbeats 8000000 in
set_option maxRecDepth 100000 in
theorem cRight_5 {e : Ev} {w : World} {bn : Bool} (hO : ∀ (W : World) (v : Value), Sl W v [e.c] → Calls Tryz.prog 64 #[v] W fun x w' => x = .returned (.bool true) ∧ Below W.heap.size W w') (H1 : ∀ W, Below w.heap.size w W → Calls Tryz.prog 102 #[.int .i64 e.pr] W fun x w' => x = .returned (.bool true) ∧ Below W.heap.size W w') (H2 : ∀ W, Below w.heap.size w W → Calls Tryz.prog 102 #[.int .i64 e.ab] W fun x w' => x = .returned (.bool true) ∧ Below W.heap.size W w') (H3 : ∀ W, Below w.heap.size w W → Calls Tryz.prog 103 #[.int .i64 e.lo, .int .i64 e.hi] W fun x w' => x = .returned (.bool true) ∧ Below W.heap.size W w') (H4 : ∀ W, Below w.heap.size w W → Calls Tryz.prog 105 #[.agg #[.int .i64 e.ft, .slice e.fp.a e.fp.n e.fp.c]] W fun x w' => x = .returned (.bool bn) ∧ Below W.heap.size W w') (H5 : ∀ W, Below w.heap.size w W → Calls Tryz.prog 104 #[.agg #[.int .i64 e.ft, .slice e.fp.a e.fp.n e.fp.c], .bool (!bn)] W fun x w' => x = .returned (.bool true) ∧ Below W.heap.size W w') (H6 : ∀ W, Below w.heap.size w W → Calls Tryz.prog 104 #[.agg #[.int .i64 e.xt, .slice e.xp.a e.xp.n e.xp.c], .bool (decide (0 < e.ab))] W fun x w' => x = .returned (.bool false) ∧ Below W.heap.size W w') :
    Calls Tryz.prog 58 #[.agg e.arr] w fun x w' => x = .returned (.bool false) ∧ Below w.heap.size w w' := by
  have HX : Hid (Ob ((w.alloc (.cells e.arr 67)).drew) w.heap.size 67 e) := hid (obDrew (heap_alloc_new w _))
  have HW : Hid (Below w.heap.size w ((w.alloc (.cells e.arr 67)).drew)) := hid (belowDrew ((Below.refl _ w).alloc (Nat.le_refl _) _))
  have c0 : ((w.alloc (.cells e.arr 67)).drew).cell? ⟨w.heap.size, 0, none⟩ = some (.int .i64 e.c.i) := HX.out.cell (j := 0) rfl
  have c1 : ((w.alloc (.cells e.arr 67)).drew).cell? ⟨w.heap.size, 1, none⟩ = some (.int .i64 e.c.k) := HX.out.cell (j := 1) rfl
  have c2 : ((w.alloc (.cells e.arr 67)).drew).cell? ⟨w.heap.size, 2, none⟩ = some (.int .i64 e.c.s) := HX.out.cell (j := 2) rfl
  have c3 : ((w.alloc (.cells e.arr 67)).drew).cell? ⟨w.heap.size, 3, none⟩ = some (.int .i64 e.c.t) := HX.out.cell (j := 3) rfl
  have c4 : ((w.alloc (.cells e.arr 67)).drew).cell? ⟨w.heap.size, 4, none⟩ = some (.int .i64 e.c.d) := HX.out.cell (j := 4) rfl
  have c5 : ((w.alloc (.cells e.arr 67)).drew).cell? ⟨w.heap.size, 5, none⟩ = some (.int .i64 e.c.p) := HX.out.cell (j := 5) rfl
  have c6 : ((w.alloc (.cells e.arr 67)).drew).cell? ⟨w.heap.size, 6, none⟩ = some (.int .i64 e.c.q) := HX.out.cell (j := 6) rfl
  have HS : Hid (Sl ((w.alloc (.cells e.arr 67)).alloc (.cells #[.int .i64 e.c.i, .int .i64 e.c.k, .int .i64 e.c.s, .int .i64 e.c.t, .int .i64 e.c.d, .int .i64 e.c.p, .int .i64 e.c.q] 45)).drew (.slice (some ⟨w.heap.size + 1, 0, none⟩) 1 1) [e.c]) := hid ((Sl.madeC (c := e.c) (T := 45) (W := (w.alloc (.cells e.arr 67))) (by simp)).on (belowDrew (Below.refl _ _)))
  have HBe : Hid (Below w.heap.size w ((w.alloc (.cells e.arr 67)).alloc (.cells #[.int .i64 e.c.i, .int .i64 e.c.k, .int .i64 e.c.s, .int .i64 e.c.t, .int .i64 e.c.d, .int .i64 e.c.p, .int .i64 e.c.q] 45)).drew) := hid (belowDrew (((Below.refl _ w).alloc (Nat.le_refl _) _).alloc (by simp) _))
  have HO : Hid _ := hid hO
  clear hO
  have G1 : Hid _ := hid H1
  have G2 : Hid _ := hid H2
  have G3 : Hid _ := hid H3
  have G4 : Hid _ := hid H4
  have G5 : Hid _ := hid H5
  have G6 : Hid _ := hid H6
  clear H1 H2 H3 H4 H5 H6
  go_enter Tryz.func58, Tryz.ntmps58
  go_wp2_with fail
  refine wp_region_any (by kernel_rfl) ?_
  change wpAny _ _ _ _ _ _ _ (World.drew _)
  refine wpAny_ready (rs := [0]) (by kernel_rfl) (by simp) ?_
  refine AllReady.cons rfl (fun K hK => ?_) AllReady.nil
  go_simp
  refine hK _ _ ?_
  clear hK K
  refine wpAny_ready (rs := [1]) (by kernel_rfl) (by simp) ?_
  refine AllReady.cons rfl (fun K hK => ?_) AllReady.nil
  go_simp
  refine hK _ _ ?_
  clear hK K
  refine wpAny_ready (rs := [2]) (by kernel_rfl) (by simp) ?_
  refine AllReady.cons rfl (fun K hK => ?_) AllReady.nil
  go_simp
  refine hK _ _ ?_
  clear hK K
  refine wpAny_ready (rs := [3]) (by kernel_rfl) (by simp) ?_
  refine AllReady.cons rfl (fun K hK => ?_) AllReady.nil
  go_simp
  go_at_call 64
  refine (HO.out _ _ HS.out).mono ?_
  rintro x w1 ⟨rfl, hB⟩
  refine hK _ _ ?_
  clear hK K
  have HX1 : Hid (Ob w1 w.heap.size 67 e) := hid (heapB (obAlloc HX.out : _) hB (Array.getElem?_eq_some_iff.1 (obAlloc HX.out)).1)
  have HB : Hid (Below w.heap.size w w1) := hid (HBe.out.trans (hB.mono HBe.out.size))
  clear hB c0 c1 c2 c3 c4 c5 c6 HX HS
  have q7 : ∀ (d : Nat) (os : Array Obj), (grow (redrawn w1 d) os).cell? ⟨w.heap.size, 7, none⟩ = some (.int .i64 e.pr) := fun d os => cell_regrown (HX1.out.cell (j := 7) rfl) d os
  have q8 : ∀ (d : Nat) (os : Array Obj), (grow (redrawn w1 d) os).cell? ⟨w.heap.size, 8, none⟩ = some (.int .i64 e.lo) := fun d os => cell_regrown (HX1.out.cell (j := 8) rfl) d os
  have q9 : ∀ (d : Nat) (os : Array Obj), (grow (redrawn w1 d) os).cell? ⟨w.heap.size, 9, none⟩ = some (.int .i64 e.hi) := fun d os => cell_regrown (HX1.out.cell (j := 9) rfl) d os
  have q10 : ∀ (d : Nat) (os : Array Obj), (grow (redrawn w1 d) os).cell? ⟨w.heap.size, 10, none⟩ = some (.int .i64 e.ft) := fun d os => cell_regrown (HX1.out.cell (j := 10) rfl) d os
  have q11 : ∀ (d : Nat) (os : Array Obj), (grow (redrawn w1 d) os).cell? ⟨w.heap.size, 11, none⟩ = some (.slice e.fp.a e.fp.n e.fp.c) := fun d os => cell_regrown (HX1.out.cell (j := 11) rfl) d os
  have q12 : ∀ (d : Nat) (os : Array Obj), (grow (redrawn w1 d) os).cell? ⟨w.heap.size, 12, none⟩ = some (.int .i64 e.ab) := fun d os => cell_regrown (HX1.out.cell (j := 12) rfl) d os
  have q13 : ∀ (d : Nat) (os : Array Obj), (grow (redrawn w1 d) os).cell? ⟨w.heap.size, 13, none⟩ = some (.int .i64 e.xt) := fun d os => cell_regrown (HX1.out.cell (j := 13) rfl) d os
  have q14 : ∀ (d : Nat) (os : Array Obj), (grow (redrawn w1 d) os).cell? ⟨w.heap.size, 14, none⟩ = some (.slice e.xp.a e.xp.n e.xp.c) := fun d os => cell_regrown (HX1.out.cell (j := 14) rfl) d os
  have hq1 := quietB (w1 := w1) (fun W hW => G1.out W (HB.out.trans (hW.mono HB.out.size)))
  have hq2 := quietB (w1 := w1) (fun W hW => G2.out W (HB.out.trans (hW.mono HB.out.size)))
  have hq3 := quietB (w1 := w1) (fun W hW => G3.out W (HB.out.trans (hW.mono HB.out.size)))
  have hq4 := quietB (w1 := w1) (fun W hW => G4.out W (HB.out.trans (hW.mono HB.out.size)))
  have hq5 := quietB (w1 := w1) (fun W hW => G5.out W (HB.out.trans (hW.mono HB.out.size)))
  have hq6 := quietB (w1 := w1) (fun W hW => G6.out W (HB.out.trans (hW.mono HB.out.size)))
  refine wpAny_rest4 rfl (by kernel_rfl) (by kernel_rfl) ?_
  repeat (go_big_quiet_step (first | with_reducible exact hq1 _ _ | with_reducible exact hq2 _ _ | with_reducible exact hq3 _ _ | with_reducible exact hq4 _ _ | with_reducible exact hq5 _ _ | with_reducible exact hq6 _ _))
  refine wpQuiet_nil ?_
  rintro _ ⟨⟨dq, osq⟩, rfl⟩
  go_wp2
  go_ret
  exact ⟨rfl, HB.out.trans ((below_regrown w1 dq osq).mono HB.out.size)⟩
end Go.Proofs.YtlehcaacfgocaaaGreat
