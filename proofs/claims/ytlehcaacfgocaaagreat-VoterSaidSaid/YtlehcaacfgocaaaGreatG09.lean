import Derived.Test.YtlehcaacfgocaaaGreatG07
import Derived.Test.YtlehcaacfgocaaaGreatG08
import Derived.Test.YtlehcaacfgocaaaGreatG03
import Derived.Test.YtlehcaacfgocaaaGreatJIterZm
import Derived.Test.YtlehcaacfgocaaaGreatG05
import Derived.Deep.RegionHeld
namespace Go.Proofs.YtlehcaacfgocaaaGreat
set_option linter.unusedVariables false
open Go.RowKit Go.Sort
open Go.Lib (hid)
set_option maxHeartbeats 8000000 in
set_option maxRecDepth 100000 in
theorem cRight_6 {e : Ev} {w : World} {bn : Bool} (hO : ∀ (W : World) (v : Value), Sl W v [e.c] → Calls Tryz.prog 64 #[v] W fun x w' => x = .returned (.bool true) ∧ Below W.heap.size W w') (H1 : ∀ W, Below w.heap.size w W → Calls Tryz.prog 102 #[.int .i64 e.pr] W fun x w' => x = .returned (.bool true) ∧ Below W.heap.size W w') (H2 : ∀ W, Below w.heap.size w W → Calls Tryz.prog 102 #[.int .i64 e.ab] W fun x w' => x = .returned (.bool true) ∧ Below W.heap.size W w') (H3 : ∀ W, Below w.heap.size w W → Calls Tryz.prog 103 #[.int .i64 e.lo, .int .i64 e.hi] W fun x w' => x = .returned (.bool true) ∧ Below W.heap.size W w') (H4 : ∀ W, Below w.heap.size w W → Calls Tryz.prog 105 #[.agg #[.int .i64 e.ft, .slice e.fp.a e.fp.n e.fp.c]] W fun x w' => x = .returned (.bool bn) ∧ Below W.heap.size W w') (H5 : ∀ W, Below w.heap.size w W → Calls Tryz.prog 104 #[.agg #[.int .i64 e.ft, .slice e.fp.a e.fp.n e.fp.c], .bool (!bn)] W fun x w' => x = .returned (.bool true) ∧ Below W.heap.size W w') (H6 : ∀ W, Below w.heap.size w W → Calls Tryz.prog 104 #[.agg #[.int .i64 e.xt, .slice e.xp.a e.xp.n e.xp.c], .bool (decide (0 < e.ab))] W fun x w' => x = .returned (.bool true) ∧ Below W.heap.size W w') (H7 : ∀ W, Below w.heap.size w W → Calls Tryz.prog 104 #[.agg #[.int .i64 e.vt, .slice e.vp.a e.vp.n e.vp.c], .bool e.dn] W fun x w' => x = .returned (.bool false) ∧ Below W.heap.size W w') :
    Calls Tryz.prog 58 #[.agg e.arr] w fun x w' => x = .returned (.bool false) ∧ Below w.heap.size w w' := by
  have HX : Hid (Ob ((w.alloc (.cells e.arr 67)).drew) w.heap.size 67 e) := hid (obDrew (heap_alloc_new w _))
  have HW : Hid (Below w.heap.size w ((w.alloc (.cells e.arr 67)).drew)) := hid (belowDrew ((Below.refl _ w).alloc (Nat.le_refl _) _))
  have c0 : ((w.alloc (.cells e.arr 67)).drew).cell? ⟨w.heap.size, 0, none⟩ = some (.int .i64 e.c.i) := HX.out.cell (j := 0) rfl
  have c1 : ((w.alloc (.cells e.arr 67)).drew).cell? ⟨w.heap.size, 1, none⟩ = some (.int .i64 e.c.k) := HX.out.cell (j := 1) rfl
  have c2 : ((w.alloc (.cells e.arr 67)).drew).cell? ⟨w.heap.size, 2, none⟩ = some (.int .i64 e.c.s) := HX.out.cell (j := 2) rfl
  have c3 : ((w.alloc (.cells e.arr 67)).drew).cell? ⟨w.heap.size, 3, none⟩ = some (.int .i64 e.c.t) := HX.out.cell (j := 3) rfl
  have c4 : ((w.alloc (.cells e.arr 67)).drew).cell? ⟨w.heap.size, 4, none⟩ = some (.int .i64 e.c.d) := HX.out.cell (j := 4) rfl
  have c5 : ((w.alloc (.cells e.arr 67)).drew).cell? ⟨w.heap.size, 5, none⟩ = some (.int .i64 e.c.p) := HX.out.cell (j := 5) rfl
  have c6 : ((w.alloc (.cells e.arr 67)).drew).cell? ⟨w.heap.size, 6, none⟩ = some (.int .i64 e.c.q) := HX.out.cell (j := 6) rfl
  have HS : Hid (Sl ((w.alloc (.cells e.arr 67)).alloc (.cells #[.int .i64 e.c.i, .int .i64 e.c.k, .int .i64 e.c.s, .int .i64 e.c.t, .int .i64 e.c.d, .int .i64 e.c.p, .int .i64 e.c.q] 45)).drew (.slice (some ⟨w.heap.size + 1, 0, none⟩) 1 1) [e.c]) := hid ((Sl.madeC (c := e.c) (T := 45) (W := (w.alloc (.cells e.arr 67))) (by simp)).on (belowDrew (Below.refl _ _)))
  have HBe : Hid (Below w.heap.size w ((w.alloc (.cells e.arr 67)).alloc (.cells #[.int .i64 e.c.i, .int .i64 e.c.k, .int .i64 e.c.s, .int .i64 e.c.t, .int .i64 e.c.d, .int .i64 e.c.p, .int .i64 e.c.q] 45)).drew) := hid (belowDrew (((Below.refl _ w).alloc (Nat.le_refl _) _).alloc (by simp) _))
  have HO : Hid _ := hid hO
  clear hO
  have G1 : Hid _ := hid H1
  have G2 : Hid _ := hid H2
  have G3 : Hid _ := hid H3
  have G4 : Hid _ := hid H4
  have G5 : Hid _ := hid H5
  have G6 : Hid _ := hid H6
  have G7 : Hid _ := hid H7
  clear H1 H2 H3 H4 H5 H6 H7
  go_enter Tryz.func58, Tryz.ntmps58
  go_wp2_with fail
  refine wp_region_any (by kernel_rfl) ?_
  change wpAny _ _ _ _ _ _ _ (World.drew _)
  refine wpAny_ready (rs := [0]) (by kernel_rfl) (by simp) ?_
  refine AllReady.cons rfl (fun K hK => ?_) AllReady.nil
  go_simp
  refine hK _ _ ?_
  clear hK K
  refine wpAny_ready (rs := [1]) (by kernel_rfl) (by simp) ?_
  refine AllReady.cons rfl (fun K hK => ?_) AllReady.nil
  go_simp
  refine hK _ _ ?_
  clear hK K
  refine wpAny_ready (rs := [2]) (by kernel_rfl) (by simp) ?_
  refine AllReady.cons rfl (fun K hK => ?_) AllReady.nil
  go_simp
  refine hK _ _ ?_
  clear hK K
  refine wpAny_ready (rs := [3]) (by kernel_rfl) (by simp) ?_
  refine AllReady.cons rfl (fun K hK => ?_) AllReady.nil
  go_simp
  go_at_call 64
  refine (HO.out _ _ HS.out).mono ?_
  rintro x w1 ⟨rfl, hB⟩
  refine hK _ _ ?_
  clear hK K
  have HX1 : Hid (Ob w1 w.heap.size 67 e) := hid (heapB (obAlloc HX.out : _) hB (Array.getElem?_eq_some_iff.1 (obAlloc HX.out)).1)
  have HB : Hid (Below w.heap.size w w1) := hid (HBe.out.trans (hB.mono HBe.out.size))
  clear hB c0 c1 c2 c3 c4 c5 c6 HX HS
  have q7 : ∀ (d : Nat) (os : Array Obj), (grow (redrawn w1 d) os).cell? ⟨w.heap.size, 7, none⟩ = some (.int .i64 e.pr) := fun d os => cell_regrown (HX1.out.cell (j := 7) rfl) d os
  have q8 : ∀ (d : Nat) (os : Array Obj), (grow (redrawn w1 d) os).cell? ⟨w.heap.size, 8, none⟩ = some (.int .i64 e.lo) := fun d os => cell_regrown (HX1.out.cell (j := 8) rfl) d os
  have q9 : ∀ (d : Nat) (os : Array Obj), (grow (redrawn w1 d) os).cell? ⟨w.heap.size, 9, none⟩ = some (.int .i64 e.hi) := fun d os => cell_regrown (HX1.out.cell (j := 9) rfl) d os
  have q10 : ∀ (d : Nat) (os : Array Obj), (grow (redrawn w1 d) os).cell? ⟨w.heap.size, 10, none⟩ = some (.int .i64 e.ft) := fun d os => cell_regrown (HX1.out.cell (j := 10) rfl) d os
  have q11 : ∀ (d : Nat) (os : Array Obj), (grow (redrawn w1 d) os).cell? ⟨w.heap.size, 11, none⟩ = some (.slice e.fp.a e.fp.n e.fp.c) := fun d os => cell_regrown (HX1.out.cell (j := 11) rfl) d os
  have q12 : ∀ (d : Nat) (os : Array Obj), (grow (redrawn w1 d) os).cell? ⟨w.heap.size, 12, none⟩ = some (.int .i64 e.ab) := fun d os => cell_regrown (HX1.out.cell (j := 12) rfl) d os
  have q13 : ∀ (d : Nat) (os : Array Obj), (grow (redrawn w1 d) os).cell? ⟨w.heap.size, 13, none⟩ = some (.int .i64 e.xt) := fun d os => cell_regrown (HX1.out.cell (j := 13) rfl) d os
  have q14 : ∀ (d : Nat) (os : Array Obj), (grow (redrawn w1 d) os).cell? ⟨w.heap.size, 14, none⟩ = some (.slice e.xp.a e.xp.n e.xp.c) := fun d os => cell_regrown (HX1.out.cell (j := 14) rfl) d os
  have q16 : ∀ (d : Nat) (os : Array Obj), (grow (redrawn w1 d) os).cell? ⟨w.heap.size, 16, none⟩ = some (.bool e.dn) := fun d os => cell_regrown (HX1.out.cell (j := 16) rfl) d os
  have q17 : ∀ (d : Nat) (os : Array Obj), (grow (redrawn w1 d) os).cell? ⟨w.heap.size, 17, none⟩ = some (.int .i64 e.vt) := fun d os => cell_regrown (HX1.out.cell (j := 17) rfl) d os
  have q18 : ∀ (d : Nat) (os : Array Obj), (grow (redrawn w1 d) os).cell? ⟨w.heap.size, 18, none⟩ = some (.slice e.vp.a e.vp.n e.vp.c) := fun d os => cell_regrown (HX1.out.cell (j := 18) rfl) d os
  have hq1 := quietB (w1 := w1) (fun W hW => G1.out W (HB.out.trans (hW.mono HB.out.size)))
  have hq2 := quietB (w1 := w1) (fun W hW => G2.out W (HB.out.trans (hW.mono HB.out.size)))
  have hq3 := quietB (w1 := w1) (fun W hW => G3.out W (HB.out.trans (hW.mono HB.out.size)))
  have hq4 := quietB (w1 := w1) (fun W hW => G4.out W (HB.out.trans (hW.mono HB.out.size)))
  have hq5 := quietB (w1 := w1) (fun W hW => G5.out W (HB.out.trans (hW.mono HB.out.size)))
  have hq6 := quietB (w1 := w1) (fun W hW => G6.out W (HB.out.trans (hW.mono HB.out.size)))
  have hq7 := quietB (w1 := w1) (fun W hW => G7.out W (HB.out.trans (hW.mono HB.out.size)))
  refine wpAny_rest4 rfl (by kernel_rfl) (by kernel_rfl) ?_
  repeat (go_big_quiet_step (first | with_reducible exact hq1 _ _ | with_reducible exact hq2 _ _ | with_reducible exact hq3 _ _ | with_reducible exact hq4 _ _ | with_reducible exact hq5 _ _ | with_reducible exact hq6 _ _ | with_reducible exact hq7 _ _))
  refine wpQuiet_nil ?_
  rintro _ ⟨⟨dq, osq⟩, rfl⟩
  go_wp2
  go_ret
  exact ⟨rfl, HB.out.trans ((below_regrown w1 dq osq).mono HB.out.size)⟩
set_option maxHeartbeats 8000000 in
set_option maxRecDepth 100000 in
theorem cRight_7 {e : Ev} {w : World} {bn : Bool} (hO : ∀ (W : World) (v : Value), Sl W v [e.c] → Calls Tryz.prog 64 #[v] W fun x w' => x = .returned (.bool true) ∧ Below W.heap.size W w') (H1 : ∀ W, Below w.heap.size w W → Calls Tryz.prog 102 #[.int .i64 e.pr] W fun x w' => x = .returned (.bool true) ∧ Below W.heap.size W w') (H2 : ∀ W, Below w.heap.size w W → Calls Tryz.prog 102 #[.int .i64 e.ab] W fun x w' => x = .returned (.bool true) ∧ Below W.heap.size W w') (H3 : ∀ W, Below w.heap.size w W → Calls Tryz.prog 103 #[.int .i64 e.lo, .int .i64 e.hi] W fun x w' => x = .returned (.bool true) ∧ Below W.heap.size W w') (H4 : ∀ W, Below w.heap.size w W → Calls Tryz.prog 105 #[.agg #[.int .i64 e.ft, .slice e.fp.a e.fp.n e.fp.c]] W fun x w' => x = .returned (.bool bn) ∧ Below W.heap.size W w') (H5 : ∀ W, Below w.heap.size w W → Calls Tryz.prog 104 #[.agg #[.int .i64 e.ft, .slice e.fp.a e.fp.n e.fp.c], .bool (!bn)] W fun x w' => x = .returned (.bool true) ∧ Below W.heap.size W w') (H6 : ∀ W, Below w.heap.size w W → Calls Tryz.prog 104 #[.agg #[.int .i64 e.xt, .slice e.xp.a e.xp.n e.xp.c], .bool (decide (0 < e.ab))] W fun x w' => x = .returned (.bool true) ∧ Below W.heap.size W w') (H7 : ∀ W, Below w.heap.size w W → Calls Tryz.prog 104 #[.agg #[.int .i64 e.vt, .slice e.vp.a e.vp.n e.vp.c], .bool e.dn] W fun x w' => x = .returned (.bool true) ∧ Below W.heap.size W w') :
    Calls Tryz.prog 58 #[.agg e.arr] w fun x w' => x = .returned (.bool true) ∧ Below w.heap.size w w' := by
  have HX : Hid (Ob ((w.alloc (.cells e.arr 67)).drew) w.heap.size 67 e) := hid (obDrew (heap_alloc_new w _))
  have HW : Hid (Below w.heap.size w ((w.alloc (.cells e.arr 67)).drew)) := hid (belowDrew ((Below.refl _ w).alloc (Nat.le_refl _) _))
  have c0 : ((w.alloc (.cells e.arr 67)).drew).cell? ⟨w.heap.size, 0, none⟩ = some (.int .i64 e.c.i) := HX.out.cell (j := 0) rfl
  have c1 : ((w.alloc (.cells e.arr 67)).drew).cell? ⟨w.heap.size, 1, none⟩ = some (.int .i64 e.c.k) := HX.out.cell (j := 1) rfl
  have c2 : ((w.alloc (.cells e.arr 67)).drew).cell? ⟨w.heap.size, 2, none⟩ = some (.int .i64 e.c.s) := HX.out.cell (j := 2) rfl
  have c3 : ((w.alloc (.cells e.arr 67)).drew).cell? ⟨w.heap.size, 3, none⟩ = some (.int .i64 e.c.t) := HX.out.cell (j := 3) rfl
  have c4 : ((w.alloc (.cells e.arr 67)).drew).cell? ⟨w.heap.size, 4, none⟩ = some (.int .i64 e.c.d) := HX.out.cell (j := 4) rfl
  have c5 : ((w.alloc (.cells e.arr 67)).drew).cell? ⟨w.heap.size, 5, none⟩ = some (.int .i64 e.c.p) := HX.out.cell (j := 5) rfl
  have c6 : ((w.alloc (.cells e.arr 67)).drew).cell? ⟨w.heap.size, 6, none⟩ = some (.int .i64 e.c.q) := HX.out.cell (j := 6) rfl
  have HS : Hid (Sl ((w.alloc (.cells e.arr 67)).alloc (.cells #[.int .i64 e.c.i, .int .i64 e.c.k, .int .i64 e.c.s, .int .i64 e.c.t, .int .i64 e.c.d, .int .i64 e.c.p, .int .i64 e.c.q] 45)).drew (.slice (some ⟨w.heap.size + 1, 0, none⟩) 1 1) [e.c]) := hid ((Sl.madeC (c := e.c) (T := 45) (W := (w.alloc (.cells e.arr 67))) (by simp)).on (belowDrew (Below.refl _ _)))
  have HBe : Hid (Below w.heap.size w ((w.alloc (.cells e.arr 67)).alloc (.cells #[.int .i64 e.c.i, .int .i64 e.c.k, .int .i64 e.c.s, .int .i64 e.c.t, .int .i64 e.c.d, .int .i64 e.c.p, .int .i64 e.c.q] 45)).drew) := hid (belowDrew (((Below.refl _ w).alloc (Nat.le_refl _) _).alloc (by simp) _))
  have HO : Hid _ := hid hO
  clear hO
  have G1 : Hid _ := hid H1
  have G2 : Hid _ := hid H2
  have G3 : Hid _ := hid H3
  have G4 : Hid _ := hid H4
  have G5 : Hid _ := hid H5
  have G6 : Hid _ := hid H6
  have G7 : Hid _ := hid H7
  clear H1 H2 H3 H4 H5 H6 H7
  go_enter Tryz.func58, Tryz.ntmps58
  go_wp2_with fail
  refine wp_region_any (by kernel_rfl) ?_
  change wpAny _ _ _ _ _ _ _ (World.drew _)
  refine wpAny_ready (rs := [0]) (by kernel_rfl) (by simp) ?_
  refine AllReady.cons rfl (fun K hK => ?_) AllReady.nil
  go_simp
  refine hK _ _ ?_
  clear hK K
  refine wpAny_ready (rs := [1]) (by kernel_rfl) (by simp) ?_
  refine AllReady.cons rfl (fun K hK => ?_) AllReady.nil
  go_simp
  refine hK _ _ ?_
  clear hK K
  refine wpAny_ready (rs := [2]) (by kernel_rfl) (by simp) ?_
  refine AllReady.cons rfl (fun K hK => ?_) AllReady.nil
  go_simp
  refine hK _ _ ?_
  clear hK K
  refine wpAny_ready (rs := [3]) (by kernel_rfl) (by simp) ?_
  refine AllReady.cons rfl (fun K hK => ?_) AllReady.nil
  go_simp
  go_at_call 64
  refine (HO.out _ _ HS.out).mono ?_
  rintro x w1 ⟨rfl, hB⟩
  refine hK _ _ ?_
  clear hK K
  have HX1 : Hid (Ob w1 w.heap.size 67 e) := hid (heapB (obAlloc HX.out : _) hB (Array.getElem?_eq_some_iff.1 (obAlloc HX.out)).1)
  have HB : Hid (Below w.heap.size w w1) := hid (HBe.out.trans (hB.mono HBe.out.size))
  clear hB c0 c1 c2 c3 c4 c5 c6 HX HS
  have q7 : ∀ (d : Nat) (os : Array Obj), (grow (redrawn w1 d) os).cell? ⟨w.heap.size, 7, none⟩ = some (.int .i64 e.pr) := fun d os => cell_regrown (HX1.out.cell (j := 7) rfl) d os
  have q8 : ∀ (d : Nat) (os : Array Obj), (grow (redrawn w1 d) os).cell? ⟨w.heap.size, 8, none⟩ = some (.int .i64 e.lo) := fun d os => cell_regrown (HX1.out.cell (j := 8) rfl) d os
  have q9 : ∀ (d : Nat) (os : Array Obj), (grow (redrawn w1 d) os).cell? ⟨w.heap.size, 9, none⟩ = some (.int .i64 e.hi) := fun d os => cell_regrown (HX1.out.cell (j := 9) rfl) d os
  have q10 : ∀ (d : Nat) (os : Array Obj), (grow (redrawn w1 d) os).cell? ⟨w.heap.size, 10, none⟩ = some (.int .i64 e.ft) := fun d os => cell_regrown (HX1.out.cell (j := 10) rfl) d os
  have q11 : ∀ (d : Nat) (os : Array Obj), (grow (redrawn w1 d) os).cell? ⟨w.heap.size, 11, none⟩ = some (.slice e.fp.a e.fp.n e.fp.c) := fun d os => cell_regrown (HX1.out.cell (j := 11) rfl) d os
  have q12 : ∀ (d : Nat) (os : Array Obj), (grow (redrawn w1 d) os).cell? ⟨w.heap.size, 12, none⟩ = some (.int .i64 e.ab) := fun d os => cell_regrown (HX1.out.cell (j := 12) rfl) d os
  have q13 : ∀ (d : Nat) (os : Array Obj), (grow (redrawn w1 d) os).cell? ⟨w.heap.size, 13, none⟩ = some (.int .i64 e.xt) := fun d os => cell_regrown (HX1.out.cell (j := 13) rfl) d os
  have q14 : ∀ (d : Nat) (os : Array Obj), (grow (redrawn w1 d) os).cell? ⟨w.heap.size, 14, none⟩ = some (.slice e.xp.a e.xp.n e.xp.c) := fun d os => cell_regrown (HX1.out.cell (j := 14) rfl) d os
  have q16 : ∀ (d : Nat) (os : Array Obj), (grow (redrawn w1 d) os).cell? ⟨w.heap.size, 16, none⟩ = some (.bool e.dn) := fun d os => cell_regrown (HX1.out.cell (j := 16) rfl) d os
  have q17 : ∀ (d : Nat) (os : Array Obj), (grow (redrawn w1 d) os).cell? ⟨w.heap.size, 17, none⟩ = some (.int .i64 e.vt) := fun d os => cell_regrown (HX1.out.cell (j := 17) rfl) d os
  have q18 : ∀ (d : Nat) (os : Array Obj), (grow (redrawn w1 d) os).cell? ⟨w.heap.size, 18, none⟩ = some (.slice e.vp.a e.vp.n e.vp.c) := fun d os => cell_regrown (HX1.out.cell (j := 18) rfl) d os
  have hq1 := quietB (w1 := w1) (fun W hW => G1.out W (HB.out.trans (hW.mono HB.out.size)))
  have hq2 := quietB (w1 := w1) (fun W hW => G2.out W (HB.out.trans (hW.mono HB.out.size)))
  have hq3 := quietB (w1 := w1) (fun W hW => G3.out W (HB.out.trans (hW.mono HB.out.size)))
  have hq4 := quietB (w1 := w1) (fun W hW => G4.out W (HB.out.trans (hW.mono HB.out.size)))
  have hq5 := quietB (w1 := w1) (fun W hW => G5.out W (HB.out.trans (hW.mono HB.out.size)))
  have hq6 := quietB (w1 := w1) (fun W hW => G6.out W (HB.out.trans (hW.mono HB.out.size)))
  have hq7 := quietB (w1 := w1) (fun W hW => G7.out W (HB.out.trans (hW.mono HB.out.size)))
  refine wpAny_rest4 rfl (by kernel_rfl) (by kernel_rfl) ?_
  repeat (go_big_quiet_step (first | with_reducible exact hq1 _ _ | with_reducible exact hq2 _ _ | with_reducible exact hq3 _ _ | with_reducible exact hq4 _ _ | with_reducible exact hq5 _ _ | with_reducible exact hq6 _ _ | with_reducible exact hq7 _ _))
  refine wpQuiet_nil ?_
  rintro _ ⟨⟨dq, osq⟩, rfl⟩
  go_wp2
  go_ret
  exact ⟨rfl, HB.out.trans ((below_regrown w1 dq osq).mono HB.out.size)⟩
end Go.Proofs.YtlehcaacfgocaaaGreat
namespace Go.Proofs.YtlehcaacfgocaaaGreat
set_option linter.unusedVariables false
open Go.RowKit Go.Sort
open Go.Lib (hid)
def rightP (e : Ev) (f a v : List C7) : Bool := e.c.ok && withinB e.pr 1048576 && withinB e.ab 1048576 && timesB e.lo e.hi && mustB e.ft f (!noneB e.ft f) && mustB e.xt a (decide (0 < e.ab)) && mustB e.vt v e.dn
theorem must_none {t : Int} {l : List C7} : mustB t l (!noneB t l) = mustB t l (!decide (t = 0)) := by
  by_cases ht : t = 0
  · subst ht
    have hF : fullB 0 l = false := by unfold fullB; rfl
    unfold mustB
    rw [hF]
    cases noneB 0 l <;> rfl
  · have hN : noneB t l = false := by unfold noneB; simp [ht]
    rw [hN]
    have : (!decide (t = 0)) = true := by simp [ht]
    rw [this]; rfl
theorem rightP_eq (e : Ev) (f a v : List C7) : rightP e f a v = rightE e f a v := by
  unfold rightP rightE
  rw [must_none]
  rcases h : withinB e.ab 1048576 with _ | _
  · simp
  · have h0 : 0 ≤ e.ab := by unfold withinB at h; simp at h; exact h.1
    have : decide (0 < e.ab) = !decide (e.ab = 0) := by
      rw [Bool.eq_iff_iff]; simp; omega
    rw [this]
    cases e.c.ok <;> cases withinB e.pr 1048576 <;> cases timesB e.lo e.hi <;> simp
theorem below_of_same {W : World} {e e' : Ending} {w' : World} (h : e = e' ∧ W = w') : e = e' ∧ Below W.heap.size W w' := ⟨h.1, h.2 ▸ Below.refl _ _⟩
theorem cRightE {e : Ev} {f a v : List C7} {w : World} (hf : Sl w e.fp.v f) (ha : Sl w e.xp.v a) (hv : Sl w e.vp.v v) (lf : f.length ≤ 1024) (la : a.length ≤ 1024) (lv : v.length ≤ 1024) :
    Calls Tryz.prog 58 #[.agg e.arr] w fun x w' => x = .returned (.bool (rightE e f a v)) ∧ Below w.heap.size w w' := by
  rw [← rightP_eq]
  have hO : ∀ (W : World) (u : Value), Sl W u [e.c] → Calls Tryz.prog 64 #[u] W fun x w' => x = .returned (.bool e.c.ok) ∧ Below W.heap.size W w' := fun W u hu => by
    have := cRight' hu (by simp)
    simpa using this
  have hn : e.fp.n = f.length := by
    obtain ⟨_, _, cap, a, hv', _⟩ := id hf
    injection hv' with h1 h2 h3
  have h1 := fun (W : World) (_ : Below w.heap.size w W) => (cBallot e.pr W).mono fun _ _ h => below_of_same h
  have h2 := fun (W : World) (_ : Below w.heap.size w W) => (cBallot e.ab W).mono fun _ _ h => below_of_same h
  have h3 := fun (W : World) (_ : Below w.heap.size w W) => (cTimes e.lo e.hi W).mono fun _ _ h => below_of_same h
  have h4 := fun (W : World) (_ : Below w.heap.size w W) => cNone (a := e.fp.a) (cap := e.fp.c) (l := f) (w := W) e.ft hn
  have h5 := fun (W : World) (hB : Below w.heap.size w W) => cMust e.ft (!noneB e.ft f) (hf.on hB) lf
  have h6 := fun (W : World) (hB : Below w.heap.size w W) => cMust e.xt (decide (0 < e.ab)) (ha.on hB) la
  have h7 := fun (W : World) (hB : Below w.heap.size w W) => cMust e.vt e.dn (hv.on hB) lv
  rcases b0 : e.c.ok with _ | _
  · rw [b0] at hO
    have : rightP e f a v = false := by unfold rightP; rw [b0]; rfl
    rw [this]
    exact cRight_0 (bn := true) hO
  rw [b0] at hO
  rcases b1 : withinB e.pr 1048576 with _ | _
  · rw [b1] at h1
    have : rightP e f a v = false := by unfold rightP; rw [b0, b1]; rfl
    rw [this]
    exact cRight_1 (bn := true) hO h1
  rw [b1] at h1
  rcases b2 : withinB e.ab 1048576 with _ | _
  · rw [b2] at h2
    have : rightP e f a v = false := by unfold rightP; rw [b0, b1, b2]; rfl
    rw [this]
    exact cRight_2 (bn := true) hO h1 h2
  rw [b2] at h2
  rcases b3 : timesB e.lo e.hi with _ | _
  · rw [b3] at h3
    have : rightP e f a v = false := by unfold rightP; rw [b0, b1, b2, b3]; rfl
    rw [this]
    exact cRight_3 (bn := true) hO h1 h2 h3
  rw [b3] at h3
  rcases b5 : mustB e.ft f (!noneB e.ft f) with _ | _
  · rw [b5] at h5
    have : rightP e f a v = false := by unfold rightP; rw [b0, b1, b2, b3, b5]; rfl
    rw [this]
    exact cRight_4 hO h1 h2 h3 h4 h5
  rw [b5] at h5
  rcases b6 : mustB e.xt a (decide (0 < e.ab)) with _ | _
  · rw [b6] at h6
    have : rightP e f a v = false := by unfold rightP; rw [b0, b1, b2, b3, b5, b6]; rfl
    rw [this]
    exact cRight_5 hO h1 h2 h3 h4 h5 h6
  rw [b6] at h6
  rcases b7 : mustB e.vt v e.dn with _ | _
  · rw [b7] at h7
    have : rightP e f a v = false := by unfold rightP; rw [b0, b1, b2, b3, b5, b6, b7]; rfl
    rw [this]
    exact cRight_6 hO h1 h2 h3 h4 h5 h6 h7
  rw [b7] at h7
  have : rightP e f a v = true := by unfold rightP; rw [b0, b1, b2, b3, b5, b6, b7]; rfl
  rw [this]
  exact cRight_7 hO h1 h2 h3 h4 h5 h6 h7
end Go.Proofs.YtlehcaacfgocaaaGreat
namespace Go.Proofs.YtlehcaacfgocaaaGreat
set_option linter.unusedVariables false
open Go.RowKit
open Go.Lib (hid)
theorem own_tch {S : Nat → Prop} {w w' : World} {B n size : Nat} {e : TypeId} {v : Value} {xs : List Value} (h : w.ownsRow B e size v n xs) (ht : Tch S w w') (hv : ∀ k, v.ownBlock = some k → ¬ S k) : w'.ownsRow B e size v n xs := by
  refine ⟨h.1, ?_⟩
  rcases h.2 with h2 | ⟨g, cap, cur, rfl, h1, hg, r⟩
  · exact .inl h2
  · exact .inr ⟨g, cap, cur, rfl, h1, ht.ob hg (hv g rfl), r⟩
theorem own_off {w : World} {B n size k : Nat} {e : TypeId} {v : Value} {xs : List Value} {o : Obj} (h : w.ownsRow B e size v n xs) (ho : w.heap[k]? = some o) (hne : ∀ cur, o ≠ .cells cur e (0, 0)) : v.ownBlock ≠ some k := by
  rcases h.2 with ⟨rfl, _⟩ | ⟨g, cap, cur, rfl, h1, hg, r⟩
  · simp [Value.ownBlock]
  · intro e
    simp [Value.ownBlock] at e
    subst e
    rw [ho] at hg
    exact hne cur (Option.some.inj hg)
def Cg (w : World) (b n : Nat) (ids : List Int) : Prop := ∃ D : DataW Value, w.ownsMap Tryz.prog 3 unitElem b n D ∧ ∀ i, Maps.has D (key i) = decide (i ∈ ids)
theorem Cg.lt {w : World} {b n : Nat} {ids : List Int} (h : Cg w b n ids) : b < w.heap.size := by obtain ⟨D, h, _⟩ := h; exact h.lt
theorem Cg.ob {w : World} {b n : Nat} {ids : List Int} (h : Cg w b n ids) : ∃ es c, w.heap[b]? = some (.map es c) := by obtain ⟨D, ⟨es, clock, hb, _⟩, _⟩ := h; exact ⟨es, clock, hb⟩
theorem Mp.ob {w : World} {b n : Nat} {xs : List En} (h : Mp w b n xs) : ∃ es c, w.heap[b]? = some (.map es c) := by obtain ⟨D, ⟨es, clock, hb, _⟩, _⟩ := h; exact ⟨es, clock, hb⟩
theorem Cg.keptT {S : Nat → Prop} {w w' : World} {b n : Nat} {ids : List Int} (h : Cg w b n ids) (ht : Tch S w w') (hS : ¬ S b) : Cg w' b n ids := by
  obtain ⟨D, ⟨es, clock, hb, hrest⟩, hs⟩ := h
  exact ⟨D, ⟨es, clock, ht.ob hb hS, hrest⟩, hs⟩
theorem Cg.on {w w' : World} {b n : Nat} {ids : List Int} (h : Cg w b n ids) (hb : Below w.heap.size w w') : Cg w' b n ids := h.keptT (Tch.ofBelow (S := fun _ => False) hb) (fun h => h)
theorem Cg.nocell {w : World} {b n : Nat} {ids : List Int} (h : Cg w b n ids) (i : Nat) : w.cell? ⟨b, i, none⟩ = none := by
  obtain ⟨es, c, hb⟩ := h.ob
  simp [World.cell?, hb]
theorem Cg.mono {w : World} {b n n' : Nat} {ids : List Int} (h : Cg w b n ids) (hn : n ≤ n') : Cg w b n' ids := by obtain ⟨D, h, hs⟩ := h; exact ⟨D, h.mono hn, hs⟩
theorem Mp.mono {w : World} {b n n' : Nat} {xs : List En} (h : Mp w b n xs) (hn : n ≤ n') : Mp w b n' xs := by obtain ⟨D, h, hs⟩ := h; exact ⟨D, h.mono hn, hs⟩
theorem Cg.congr {w : World} {b n : Nat} {ids ids' : List Int} (h : Cg w b n ids) (he : ∀ i, i ∈ ids ↔ i ∈ ids') : Cg w b n ids' := by obtain ⟨D, h, hs⟩ := h; exact ⟨D, h, fun i => by rw [hs i]; simp [he i]⟩
theorem Mp.congr {w : World} {b n : Nat} {xs ys : List En} (h : Mp w b n xs) (he : ∀ i, lookG En.id xs i = lookG En.id ys i) : Mp w b n ys := by obtain ⟨D, h, hs⟩ := h; exact ⟨D, h, fun i => by rw [← he i]; exact hs i⟩
theorem Cg.made (w : World) : Cg (w.alloc (.map #[] 0)) w.heap.size 0 [] := ⟨_, World.ownsMap_made w _ _ _, fun i => by simp [Maps.has]⟩
theorem has_put {D : DataW Value} {ids : List Int} (hD : Maps.IsMap D) (hs : ∀ i, Maps.has D (key i) = decide (i ∈ ids)) (x : Int) (d : DataW Value) : ∀ i, Maps.has (D.put (key x) d) (key i) = decide (i ∈ ids ++ [x]) := fun i => by
  by_cases h : x = i
  · subst h
    have hk : WideAt.IsKeyLit (key x) := trivial
    rw [Maps.has_put_same hD hk]; simp
  · rw [Maps.has_put_other (key_ne (Ne.symm h)), hs i]
    simp [Ne.symm h]
structure Ix (w : World) (x b b2 n : Nat) (nd c : Int) (xs : List En) (ids : List Int) : Prop where
  ob : w.heap[x]? = some (.cells #[.int .i64 nd, .int .i64 c, .map (some b), .map (some b2)] 86 (0, 0))
  mp : Mp w b n xs
  cg : Cg w b2 n ids
  ne : b ≠ b2
abbrev TI (x b b2 : Nat) : Nat → Prop := fun k => k = x ∨ k = b ∨ k = b2
section
variable {w w' : World} {x b b2 n : Nat} {nd c : Int} {xs : List En} {ids : List Int}
theorem Ix.xb (h : Ix w x b b2 n nd c xs ids) : x ≠ b ∧ x ≠ b2 := by
  refine ⟨fun e => ?_, fun e => ?_⟩
  · obtain ⟨es, k, hb⟩ := h.mp.ob
    have := h.ob
    rw [e, hb] at this; cases this
  · obtain ⟨es, k, hb⟩ := h.cg.ob
    have := h.ob
    rw [e, hb] at this; cases this
theorem Ix.lt (h : Ix w x b b2 n nd c xs ids) : x < w.heap.size ∧ b < w.heap.size ∧ b2 < w.heap.size := ⟨(Array.getElem?_eq_some_iff.1 h.ob).1, h.mp.lt, h.cg.lt⟩
theorem Ix.nocell (h : Ix w x b b2 n nd c xs ids) : ∀ k, TI x b b2 k → ∀ i, 6 ≤ i → w.cell? ⟨k, i, none⟩ = none := fun k hk i hi => by
  rcases hk with rfl | rfl | rfl
  · rw [cellAt' h.ob, Array.getElem?_eq_none (by simp; omega)]
  · exact h.mp.nocell i
  · exact h.cg.nocell i
theorem Ix.keptT {S : Nat → Prop} (h : Ix w x b b2 n nd c xs ids) (ht : Tch S w w') (hS : ∀ k, TI x b b2 k → ¬ S k) : Ix w' x b b2 n nd c xs ids :=
  ⟨ht.ob h.ob (hS x (.inl rfl)), h.mp.keptT ht (hS b (.inr (.inl rfl))), h.cg.keptT ht (hS b2 (.inr (.inr rfl))), h.ne⟩
theorem Ix.on (h : Ix w x b b2 n nd c xs ids) (hb : Below w.heap.size w w') : Ix w' x b b2 n nd c xs ids := h.keptT (Tch.ofBelow (S := fun _ => False) hb) fun _ _ h => h
theorem Ix.mono {n' : Nat} (h : Ix w x b b2 n nd c xs ids) (hn : n ≤ n') : Ix w x b b2 n' nd c xs ids := ⟨h.ob, h.mp.mono hn, h.cg.mono hn, h.ne⟩
theorem Ix.congr {ys : List En} {ids' : List Int} (h : Ix w x b b2 n nd c xs ids) (he : ∀ i, lookG En.id xs i = lookG En.id ys i) (hi : ∀ i, i ∈ ids ↔ i ∈ ids') : Ix w x b b2 n nd c ys ids' := ⟨h.ob, h.mp.congr he, h.cg.congr hi, h.ne⟩
theorem Ix.cells (h : Ix w x b b2 n nd c xs ids) : w.cell? ⟨x, 0, none⟩ = some (.int .i64 nd) ∧ w.cell? ⟨x, 1, none⟩ = some (.int .i64 c) ∧ w.cell? ⟨x, 2, none⟩ = some (Value.map (some b)) ∧ w.cell? ⟨x, 3, none⟩ = some (Value.map (some b2)) ∧ w.frozen? ⟨x, 1, none⟩ = false :=
  ⟨(cellAt' h.ob 0).trans rfl, (cellAt' h.ob 1).trans rfl, (cellAt' h.ob 2).trans rfl, (cellAt' h.ob 3).trans rfl, frozenAt h.ob 1⟩
theorem Ix.clock (h : Ix w x b b2 n nd c xs ids) (d : Int) : Ix (w.setCell ⟨x, 1, none⟩ (.int .i64 d)) x b b2 n nd d xs ids ∧ Tch (fun k => k = x) w (w.setCell ⟨x, 1, none⟩ (.int .i64 d)) := by
  have hg := grownSet w ⟨x, 1, none⟩ (.int .i64 d)
  have hT : Tch (fun k => k = x) w (w.setCell ⟨x, 1, none⟩ (.int .i64 d)) := Tch.ofGrown hg fun k e => (Option.some.inj e).symm
  refine ⟨⟨?_, h.mp.keptT hT (fun e => h.xb.1 e.symm), h.cg.keptT hT (fun e => h.xb.2 e.symm), h.ne⟩, hT⟩
  have := setAt (j := 1) (x := .int .i64 d) h.ob
  simpa using this
end
structure Rx (w : World) (y : Nat) (nd c : Int) (v u : Value) (es : List Ev) (ids : List Int) : Prop where
  ob : w.heap[y]? = some (.cells #[.int .i64 nd, .int .i64 c, v, u] 62 (0, 0))
  es : OwnR w 0 v es
  ids : OwnI w 0 u ids
section
variable {w w' : World} {y : Nat} {nd c : Int} {v u : Value} {es : List Ev} {ids : List Int}
theorem Rx.lt (h : Rx w y nd c v u es ids) : y < w.heap.size := (Array.getElem?_eq_some_iff.1 h.ob).1
theorem Rx.nocell (h : Rx w y nd c v u es ids) : ∀ k, k = y → ∀ i, 6 ≤ i → w.cell? ⟨k, i, none⟩ = none := fun k hk i hi => by
  subst hk
  rw [cellAt' h.ob, Array.getElem?_eq_none (by simp; omega)]
theorem Rx.keptT {S : Nat → Prop} (h : Rx w y nd c v u es ids) (ht : Tch S w w') (hy : ¬ S y) (hS : ∀ k, S k → ∃ o, w.heap[k]? = some o ∧ (∀ cur, o ≠ .cells cur 78 (0, 0)) ∧ ∀ cur, o ≠ .cells cur 3 (0, 0)) : Rx w' y nd c v u es ids :=
  ⟨ht.ob h.ob hy, own_tch h.es ht fun k hk hs => by obtain ⟨o, ho, h1, h2⟩ := hS k hs; exact own_off h.es ho h1 hk, own_tch h.ids ht fun k hk hs => by obtain ⟨o, ho, h1, h2⟩ := hS k hs; exact own_off h.ids ho h2 hk⟩
theorem Rx.on (h : Rx w y nd c v u es ids) (hb : Below w.heap.size w w') : Rx w' y nd c v u es ids := h.keptT (Tch.ofBelow (S := fun _ => False) hb) (fun h => h) fun _ h => h.elim
theorem Rx.cells (h : Rx w y nd c v u es ids) : w.cell? ⟨y, 0, none⟩ = some (.int .i64 nd) ∧ w.cell? ⟨y, 1, none⟩ = some (.int .i64 c) ∧ w.cell? ⟨y, 2, none⟩ = some v ∧ w.cell? ⟨y, 3, none⟩ = some u ∧ w.frozen? ⟨y, 1, none⟩ = false ∧ w.frozen? ⟨y, 2, none⟩ = false ∧ w.frozen? ⟨y, 3, none⟩ = false :=
  ⟨(cellAt' h.ob 0).trans rfl, (cellAt' h.ob 1).trans rfl, (cellAt' h.ob 2).trans rfl, (cellAt' h.ob 3).trans rfl, frozenAt h.ob 1, frozenAt h.ob 2, frozenAt h.ob 3⟩
end
end Go.Proofs.YtlehcaacfgocaaaGreat
namespace Go.Proofs.YtlehcaacfgocaaaGreat
set_option linter.unusedVariables false
open Go.RowKit
open Go.Lib (hid)
end Go.Proofs.YtlehcaacfgocaaaGreat
namespace Go.Proofs.YtlehcaacfgocaaaGreat
set_option linter.unusedVariables false
open Go.RowKit
open Go.Lib (hid)
theorem wanted_plain {o : Oper} {y : Nat → Option Bool} (hg : o.guard = none) : Region.wanted o y = true := by
  unfold Region.wanted; rw [hg]
end Go.Proofs.YtlehcaacfgocaaaGreat
namespace Go.Proofs.YtlehcaacfgocaaaGreat
set_option linter.unusedVariables false
open Go.RowKit
open Go.Lib (hid)
section
variable {P : Program} {md : Region.Mode} {S : World → Prop} {ops : Array Oper} {i : Nat} {o : Oper} {rs : List Nat} {fuel : Nat} {listed listed' : Array Bool} {a a' : Act} {w : World} {Q : Exit → Act → World → Prop}
theorem rh_start {id n : Nat} (hm : P.follows .mixedOrders = true) (hn : ops.size = n) (hl : Array.replicate n false = listed) (h : wpAnyH P .any ops Q S n listed a w.drew) : (Code.region id ops true).wp P Q a w := by
  subst hn hl
  exact wp_region_held hm h
theorem rh_load {cs : List Value} {d : TypeDesc} {T : TypeId} {x : Operand} {b q : Nat} (hi : ops[i]? = some o) (hs : Region.noSelect ops = true) (hf : Region.free md ops listed i = true) (hr : (Region.ready md ops listed).contains i = true)
    (hQ : ∀ c a w, Q (.panic c) (a.put o.dst (.agg cs.toArray)) w → Q (.panic c) a w) (hl : listed.setIfInBounds i true = listed') (hg : o.guard = none) (ho : o.op = .load T x) (hx : a.eval x = .pointer (some ⟨b, q, none⟩)) (hc : ∀ w, S w → w.rangeAt b q cs) (hu : P.underlying T = some d) (hd : d.isRow = true) (hz : (P.info? T).map (·.size) = some cs.length)
    (ha : a.put o.dst (.agg cs.toArray) = a') (hS : S w) (h : wpAnyH P md ops Q S fuel listed' a' w) : wpAnyH P md ops Q S (fuel + 1) listed a w := by
  subst hl ha
  exact wpAnyH_take hi hs hf hr hQ (yieldsIf_load_mid (wanted_plain hg) T x ho b q hx cs d hc hu hd hz) hS h
theorem rh_cons (hi : ops[i]? = some o) (hl : listed.setIfInBounds i true = listed') (hg : o.guard = none) (h : ∀ K' : Act → World → Prop, Shut (∀ a w, S w → wpAnyH P md ops Q S fuel listed' a w → K' a w) → Oper.wp P o a w K' Q) (hs : AllReadyH P md ops Q S fuel listed a w rs) : AllReadyH P md ops Q S fuel listed a w (i :: rs) := by
  subst hl
  refine AllReadyH.cons hi (fun K' hK => ?_) hs
  rw [if_pos (wanted_plain hg)]
  exact h K' (fun a w h1 h2 => hK.out a w h1 (fun _ => h2))
end
section
variable {md : Region.Mode} {S : World → Prop} {ops : Array Oper} {i : Nat} {o : Oper} {rs : List Nat} {fuel : Nat} {listed listed' : Array Bool} {a a' : Act} {w : World} {Q : Exit → Act → World → Prop}
theorem rh_storeC {x y : Operand} {b : Nat} {T : TypeId} (e : Ev) (hi : ops[i]? = some o) (hl : listed.setIfInBounds i true = listed') (hg : o.guard = none) (ho : o.op = .store 67 x y)
    (hx : a.eval x = .pointer (some ⟨b, 0, none⟩)) (hy : a.eval y = .agg e.arr) (hd : o.dst = none) (hC : Room w b T) (h : ∀ W, Ob W b T e → Upd b w W → S W ∧ wpAnyH Tryz.prog md ops Q S fuel listed' a W) (hs : AllReadyH Tryz.prog md ops Q S fuel listed a w rs) : AllReadyH Tryz.prog md ops Q S fuel listed a w (i :: rs) := by
  refine rh_cons hi hl hg (fun K hK => ?_) hs
  obtain ⟨C, hC, hz⟩ := hC
  refine wp_store_mid 67 x y ho b 0 e.arr hx hy (thereOf hC (by rw [hz]; exact Nat.le_refl _)) (infoEc' e) (Ev.one e) ?_
  rw [hd]
  obtain ⟨h1, h2⟩ := h _ (setsOb e hC hz) (setsUpd w b _)
  exact hK.out _ _ h1 h2
end
end Go.Proofs.YtlehcaacfgocaaaGreat
