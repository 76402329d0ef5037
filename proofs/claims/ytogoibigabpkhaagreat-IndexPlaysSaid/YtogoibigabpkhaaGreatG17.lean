import Derived.Test.YtogoibigabpkhaaGreatG15
import Derived.Test.YtogoibigabpkhaaGreatCRightBM
/- Entries by value, the program's own: Right. -/
namespace Go.Proofs.YtogoibigabpkhaaGreat
set_option linter.unusedVariables false
open Go.RowKit Go.Sort
open Go.Lib (hid)


set_option maxHeartbeats 8000000 in
set_option maxRecDepth 100000 in
theorem cRight_6 {e : Ev} {w : World} {bn : Bool} (hO : ∀ (W : World) (v : Value), Sl W v [e.c] → Calls Tryz.prog 65 #[v] W fun x w' => x = .returned (.bool true) ∧ Below W.heap.size W w') (H1 : ∀ W, Below w.heap.size w W → Calls Tryz.prog 95 #[.int .i64 e.pr] W fun x w' => x = .returned (.bool true) ∧ Below W.heap.size W w') (H2 : ∀ W, Below w.heap.size w W → Calls Tryz.prog 95 #[.int .i64 e.ab] W fun x w' => x = .returned (.bool true) ∧ Below W.heap.size W w') (H3 : ∀ W, Below w.heap.size w W → Calls Tryz.prog 96 #[.int .i64 e.lo, .int .i64 e.hi] W fun x w' => x = .returned (.bool true) ∧ Below W.heap.size W w') (H4 : ∀ W, Below w.heap.size w W → Calls Tryz.prog 98 #[.agg #[.int .i64 e.ft, .slice e.fp.a e.fp.n e.fp.c]] W fun x w' => x = .returned (.bool bn) ∧ Below W.heap.size W w') (H5 : ∀ W, Below w.heap.size w W → Calls Tryz.prog 97 #[.agg #[.int .i64 e.ft, .slice e.fp.a e.fp.n e.fp.c], .bool (!bn)] W fun x w' => x = .returned (.bool true) ∧ Below W.heap.size W w') (H6 : ∀ W, Below w.heap.size w W → Calls Tryz.prog 97 #[.agg #[.int .i64 e.xt, .slice e.xp.a e.xp.n e.xp.c], .bool (decide (0 < e.ab))] W fun x w' => x = .returned (.bool true) ∧ Below W.heap.size W w') (H7 : ∀ W, Below w.heap.size w W → Calls Tryz.prog 97 #[.agg #[.int .i64 e.vt, .slice e.vp.a e.vp.n e.vp.c], .bool e.dn] W fun x w' => x = .returned (.bool false) ∧ Below W.heap.size W w') :
    Calls Tryz.prog 68 #[.agg e.arr] w fun x w' => x = .returned (.bool false) ∧ Below w.heap.size w w' := by
  have HX : Hid (Ob ((w.alloc (.cells e.arr 44)).drew) w.heap.size 44 e) := hid (obDrew (heap_alloc_new w _))
  have HW : Hid (Below w.heap.size w ((w.alloc (.cells e.arr 44)).drew)) := hid (belowDrew ((Below.refl _ w).alloc (Nat.le_refl _) _))
  have c0 : ((w.alloc (.cells e.arr 44)).drew).cell? ⟨w.heap.size, 0, none⟩ = some (.int .i64 e.c.i) := HX.out.cell (j := 0) rfl
  have c1 : ((w.alloc (.cells e.arr 44)).drew).cell? ⟨w.heap.size, 1, none⟩ = some (.int .i64 e.c.k) := HX.out.cell (j := 1) rfl
  have c2 : ((w.alloc (.cells e.arr 44)).drew).cell? ⟨w.heap.size, 2, none⟩ = some (.int .i64 e.c.s) := HX.out.cell (j := 2) rfl
  have c3 : ((w.alloc (.cells e.arr 44)).drew).cell? ⟨w.heap.size, 3, none⟩ = some (.int .i64 e.c.t) := HX.out.cell (j := 3) rfl
  have c4 : ((w.alloc (.cells e.arr 44)).drew).cell? ⟨w.heap.size, 4, none⟩ = some (.int .i64 e.c.d) := HX.out.cell (j := 4) rfl
  have c5 : ((w.alloc (.cells e.arr 44)).drew).cell? ⟨w.heap.size, 5, none⟩ = some (.int .i64 e.c.p) := HX.out.cell (j := 5) rfl
  have c6 : ((w.alloc (.cells e.arr 44)).drew).cell? ⟨w.heap.size, 6, none⟩ = some (.int .i64 e.c.q) := HX.out.cell (j := 6) rfl
  have HS : Hid (Sl ((w.alloc (.cells e.arr 44)).alloc (.cells #[.int .i64 e.c.i, .int .i64 e.c.k, .int .i64 e.c.s, .int .i64 e.c.t, .int .i64 e.c.d, .int .i64 e.c.p, .int .i64 e.c.q] 40)).drew (.slice (some ⟨w.heap.size + 1, 0, none⟩) 1 1) [e.c]) := hid ((Sl.madeC (c := e.c) (T := 40) (W := (w.alloc (.cells e.arr 44))) (by simp)).on (belowDrew (Below.refl _ _)))
  have HBe : Hid (Below w.heap.size w ((w.alloc (.cells e.arr 44)).alloc (.cells #[.int .i64 e.c.i, .int .i64 e.c.k, .int .i64 e.c.s, .int .i64 e.c.t, .int .i64 e.c.d, .int .i64 e.c.p, .int .i64 e.c.q] 40)).drew) := hid (belowDrew (((Below.refl _ w).alloc (Nat.le_refl _) _).alloc (by simp) _))
  have HO : Hid _ := hid hO
  clear hO
  have G1 : Hid _ := hid H1
  have G2 : Hid _ := hid H2
  have G3 : Hid _ := hid H3
  have G4 : Hid _ := hid H4
  have G5 : Hid _ := hid H5
  have G6 : Hid _ := hid H6
  have G7 : Hid _ := hid H7
  clear H1 H2 H3 H4 H5 H6 H7
  go_enter Tryz.func68, Tryz.ntmps68
  go_wp2_with fail
  refine wp_region_any (by kernel_rfl) ?_
  change wpAny _ _ _ _ _ _ _ (World.drew _)
  refine wpAny_ready (rs := [0]) (by kernel_rfl) (by simp) ?_
  refine AllReady.cons rfl (fun K hK => ?_) AllReady.nil
  go_simp
  refine hK _ _ ?_
  clear hK K
  refine wpAny_ready (rs := [1]) (by kernel_rfl) (by simp) ?_
  refine AllReady.cons rfl (fun K hK => ?_) AllReady.nil
  go_simp
  refine hK _ _ ?_
  clear hK K
  refine wpAny_ready (rs := [2]) (by kernel_rfl) (by simp) ?_
  refine AllReady.cons rfl (fun K hK => ?_) AllReady.nil
  go_simp
  refine hK _ _ ?_
  clear hK K
  refine wpAny_ready (rs := [3]) (by kernel_rfl) (by simp) ?_
  refine AllReady.cons rfl (fun K hK => ?_) AllReady.nil
  go_simp
  go_at_call 65
  refine (HO.out _ _ HS.out).mono ?_
  rintro x w1 ⟨rfl, hB⟩
  refine hK _ _ ?_
  clear hK K
  have HX1 : Hid (Ob w1 w.heap.size 44 e) := hid (heapB (obAlloc HX.out : _) hB (Array.getElem?_eq_some_iff.1 (obAlloc HX.out)).1)
  have HB : Hid (Below w.heap.size w w1) := hid (HBe.out.trans (hB.mono HBe.out.size))
  clear hB c0 c1 c2 c3 c4 c5 c6 HX HS
  have q7 : ∀ (d : Nat) (os : Array Obj), (grow (redrawn w1 d) os).cell? ⟨w.heap.size, 7, none⟩ = some (.int .i64 e.pr) := fun d os => cell_regrown (HX1.out.cell (j := 7) rfl) d os
  have q8 : ∀ (d : Nat) (os : Array Obj), (grow (redrawn w1 d) os).cell? ⟨w.heap.size, 8, none⟩ = some (.int .i64 e.lo) := fun d os => cell_regrown (HX1.out.cell (j := 8) rfl) d os
  have q9 : ∀ (d : Nat) (os : Array Obj), (grow (redrawn w1 d) os).cell? ⟨w.heap.size, 9, none⟩ = some (.int .i64 e.hi) := fun d os => cell_regrown (HX1.out.cell (j := 9) rfl) d os
  have q10 : ∀ (d : Nat) (os : Array Obj), (grow (redrawn w1 d) os).cell? ⟨w.heap.size, 10, none⟩ = some (.int .i64 e.ft) := fun d os => cell_regrown (HX1.out.cell (j := 10) rfl) d os
  have q11 : ∀ (d : Nat) (os : Array Obj), (grow (redrawn w1 d) os).cell? ⟨w.heap.size, 11, none⟩ = some (.slice e.fp.a e.fp.n e.fp.c) := fun d os => cell_regrown (HX1.out.cell (j := 11) rfl) d os
  have q12 : ∀ (d : Nat) (os : Array Obj), (grow (redrawn w1 d) os).cell? ⟨w.heap.size, 12, none⟩ = some (.int .i64 e.ab) := fun d os => cell_regrown (HX1.out.cell (j := 12) rfl) d os
  have q13 : ∀ (d : Nat) (os : Array Obj), (grow (redrawn w1 d) os).cell? ⟨w.heap.size, 13, none⟩ = some (.int .i64 e.xt) := fun d os => cell_regrown (HX1.out.cell (j := 13) rfl) d os
  have q14 : ∀ (d : Nat) (os : Array Obj), (grow (redrawn w1 d) os).cell? ⟨w.heap.size, 14, none⟩ = some (.slice e.xp.a e.xp.n e.xp.c) := fun d os => cell_regrown (HX1.out.cell (j := 14) rfl) d os
  have q16 : ∀ (d : Nat) (os : Array Obj), (grow (redrawn w1 d) os).cell? ⟨w.heap.size, 16, none⟩ = some (.bool e.dn) := fun d os => cell_regrown (HX1.out.cell (j := 16) rfl) d os
  have q17 : ∀ (d : Nat) (os : Array Obj), (grow (redrawn w1 d) os).cell? ⟨w.heap.size, 17, none⟩ = some (.int .i64 e.vt) := fun d os => cell_regrown (HX1.out.cell (j := 17) rfl) d os
  have q18 : ∀ (d : Nat) (os : Array Obj), (grow (redrawn w1 d) os).cell? ⟨w.heap.size, 18, none⟩ = some (.slice e.vp.a e.vp.n e.vp.c) := fun d os => cell_regrown (HX1.out.cell (j := 18) rfl) d os
  have hq1 := quietB (w1 := w1) (fun W hW => G1.out W (HB.out.trans (hW.mono HB.out.size)))
  have hq2 := quietB (w1 := w1) (fun W hW => G2.out W (HB.out.trans (hW.mono HB.out.size)))
  have hq3 := quietB (w1 := w1) (fun W hW => G3.out W (HB.out.trans (hW.mono HB.out.size)))
  have hq4 := quietB (w1 := w1) (fun W hW => G4.out W (HB.out.trans (hW.mono HB.out.size)))
  have hq5 := quietB (w1 := w1) (fun W hW => G5.out W (HB.out.trans (hW.mono HB.out.size)))
  have hq6 := quietB (w1 := w1) (fun W hW => G6.out W (HB.out.trans (hW.mono HB.out.size)))
  have hq7 := quietB (w1 := w1) (fun W hW => G7.out W (HB.out.trans (hW.mono HB.out.size)))
  refine wpAny_rest4 rfl (by kernel_rfl) (by kernel_rfl) ?_
  repeat (go_big_quiet_step (first | with_reducible exact hq1 _ _ | with_reducible exact hq2 _ _ | with_reducible exact hq3 _ _ | with_reducible exact hq4 _ _ | with_reducible exact hq5 _ _ | with_reducible exact hq6 _ _ | with_reducible exact hq7 _ _))
  refine wpQuiet_nil ?_
  rintro _ ⟨⟨dq, osq⟩, rfl⟩
  go_wp2
  go_ret
  exact ⟨rfl, HB.out.trans ((below_regrown w1 dq osq).mono HB.out.size)⟩

set_option maxHeartbeats 8000000 in
set_option maxRecDepth 100000 in
theorem cRight_7 {e : Ev} {w : World} {bn : Bool} (hO : ∀ (W : World) (v : Value), Sl W v [e.c] → Calls Tryz.prog 65 #[v] W fun x w' => x = .returned (.bool true) ∧ Below W.heap.size W w') (H1 : ∀ W, Below w.heap.size w W → Calls Tryz.prog 95 #[.int .i64 e.pr] W fun x w' => x = .returned (.bool true) ∧ Below W.heap.size W w') (H2 : ∀ W, Below w.heap.size w W → Calls Tryz.prog 95 #[.int .i64 e.ab] W fun x w' => x = .returned (.bool true) ∧ Below W.heap.size W w') (H3 : ∀ W, Below w.heap.size w W → Calls Tryz.prog 96 #[.int .i64 e.lo, .int .i64 e.hi] W fun x w' => x = .returned (.bool true) ∧ Below W.heap.size W w') (H4 : ∀ W, Below w.heap.size w W → Calls Tryz.prog 98 #[.agg #[.int .i64 e.ft, .slice e.fp.a e.fp.n e.fp.c]] W fun x w' => x = .returned (.bool bn) ∧ Below W.heap.size W w') (H5 : ∀ W, Below w.heap.size w W → Calls Tryz.prog 97 #[.agg #[.int .i64 e.ft, .slice e.fp.a e.fp.n e.fp.c], .bool (!bn)] W fun x w' => x = .returned (.bool true) ∧ Below W.heap.size W w') (H6 : ∀ W, Below w.heap.size w W → Calls Tryz.prog 97 #[.agg #[.int .i64 e.xt, .slice e.xp.a e.xp.n e.xp.c], .bool (decide (0 < e.ab))] W fun x w' => x = .returned (.bool true) ∧ Below W.heap.size W w') (H7 : ∀ W, Below w.heap.size w W → Calls Tryz.prog 97 #[.agg #[.int .i64 e.vt, .slice e.vp.a e.vp.n e.vp.c], .bool e.dn] W fun x w' => x = .returned (.bool true) ∧ Below W.heap.size W w') :
    Calls Tryz.prog 68 #[.agg e.arr] w fun x w' => x = .returned (.bool true) ∧ Below w.heap.size w w' := by
  have HX : Hid (Ob ((w.alloc (.cells e.arr 44)).drew) w.heap.size 44 e) := hid (obDrew (heap_alloc_new w _))
  have HW : Hid (Below w.heap.size w ((w.alloc (.cells e.arr 44)).drew)) := hid (belowDrew ((Below.refl _ w).alloc (Nat.le_refl _) _))
  have c0 : ((w.alloc (.cells e.arr 44)).drew).cell? ⟨w.heap.size, 0, none⟩ = some (.int .i64 e.c.i) := HX.out.cell (j := 0) rfl
  have c1 : ((w.alloc (.cells e.arr 44)).drew).cell? ⟨w.heap.size, 1, none⟩ = some (.int .i64 e.c.k) := HX.out.cell (j := 1) rfl
  have c2 : ((w.alloc (.cells e.arr 44)).drew).cell? ⟨w.heap.size, 2, none⟩ = some (.int .i64 e.c.s) := HX.out.cell (j := 2) rfl
  have c3 : ((w.alloc (.cells e.arr 44)).drew).cell? ⟨w.heap.size, 3, none⟩ = some (.int .i64 e.c.t) := HX.out.cell (j := 3) rfl
  have c4 : ((w.alloc (.cells e.arr 44)).drew).cell? ⟨w.heap.size, 4, none⟩ = some (.int .i64 e.c.d) := HX.out.cell (j := 4) rfl
  have c5 : ((w.alloc (.cells e.arr 44)).drew).cell? ⟨w.heap.size, 5, none⟩ = some (.int .i64 e.c.p) := HX.out.cell (j := 5) rfl
  have c6 : ((w.alloc (.cells e.arr 44)).drew).cell? ⟨w.heap.size, 6, none⟩ = some (.int .i64 e.c.q) := HX.out.cell (j := 6) rfl
  have HS : Hid (Sl ((w.alloc (.cells e.arr 44)).alloc (.cells #[.int .i64 e.c.i, .int .i64 e.c.k, .int .i64 e.c.s, .int .i64 e.c.t, .int .i64 e.c.d, .int .i64 e.c.p, .int .i64 e.c.q] 40)).drew (.slice (some ⟨w.heap.size + 1, 0, none⟩) 1 1) [e.c]) := hid ((Sl.madeC (c := e.c) (T := 40) (W := (w.alloc (.cells e.arr 44))) (by simp)).on (belowDrew (Below.refl _ _)))
  have HBe : Hid (Below w.heap.size w ((w.alloc (.cells e.arr 44)).alloc (.cells #[.int .i64 e.c.i, .int .i64 e.c.k, .int .i64 e.c.s, .int .i64 e.c.t, .int .i64 e.c.d, .int .i64 e.c.p, .int .i64 e.c.q] 40)).drew) := hid (belowDrew (((Below.refl _ w).alloc (Nat.le_refl _) _).alloc (by simp) _))
  have HO : Hid _ := hid hO
  clear hO
  have G1 : Hid _ := hid H1
  have G2 : Hid _ := hid H2
  have G3 : Hid _ := hid H3
  have G4 : Hid _ := hid H4
  have G5 : Hid _ := hid H5
  have G6 : Hid _ := hid H6
  have G7 : Hid _ := hid H7
  clear H1 H2 H3 H4 H5 H6 H7
  go_enter Tryz.func68, Tryz.ntmps68
  go_wp2_with fail
  refine wp_region_any (by kernel_rfl) ?_
  change wpAny _ _ _ _ _ _ _ (World.drew _)
  refine wpAny_ready (rs := [0]) (by kernel_rfl) (by simp) ?_
  refine AllReady.cons rfl (fun K hK => ?_) AllReady.nil
  go_simp
  refine hK _ _ ?_
  clear hK K
  refine wpAny_ready (rs := [1]) (by kernel_rfl) (by simp) ?_
  refine AllReady.cons rfl (fun K hK => ?_) AllReady.nil
  go_simp
  refine hK _ _ ?_
  clear hK K
  refine wpAny_ready (rs := [2]) (by kernel_rfl) (by simp) ?_
  refine AllReady.cons rfl (fun K hK => ?_) AllReady.nil
  go_simp
  refine hK _ _ ?_
  clear hK K
  refine wpAny_ready (rs := [3]) (by kernel_rfl) (by simp) ?_
  refine AllReady.cons rfl (fun K hK => ?_) AllReady.nil
  go_simp
  go_at_call 65
  refine (HO.out _ _ HS.out).mono ?_
  rintro x w1 ⟨rfl, hB⟩
  refine hK _ _ ?_
  clear hK K
  have HX1 : Hid (Ob w1 w.heap.size 44 e) := hid (heapB (obAlloc HX.out : _) hB (Array.getElem?_eq_some_iff.1 (obAlloc HX.out)).1)
  have HB : Hid (Below w.heap.size w w1) := hid (HBe.out.trans (hB.mono HBe.out.size))
  clear hB c0 c1 c2 c3 c4 c5 c6 HX HS
  have q7 : ∀ (d : Nat) (os : Array Obj), (grow (redrawn w1 d) os).cell? ⟨w.heap.size, 7, none⟩ = some (.int .i64 e.pr) := fun d os => cell_regrown (HX1.out.cell (j := 7) rfl) d os
  have q8 : ∀ (d : Nat) (os : Array Obj), (grow (redrawn w1 d) os).cell? ⟨w.heap.size, 8, none⟩ = some (.int .i64 e.lo) := fun d os => cell_regrown (HX1.out.cell (j := 8) rfl) d os
  have q9 : ∀ (d : Nat) (os : Array Obj), (grow (redrawn w1 d) os).cell? ⟨w.heap.size, 9, none⟩ = some (.int .i64 e.hi) := fun d os => cell_regrown (HX1.out.cell (j := 9) rfl) d os
  have q10 : ∀ (d : Nat) (os : Array Obj), (grow (redrawn w1 d) os).cell? ⟨w.heap.size, 10, none⟩ = some (.int .i64 e.ft) := fun d os => cell_regrown (HX1.out.cell (j := 10) rfl) d os
  have q11 : ∀ (d : Nat) (os : Array Obj), (grow (redrawn w1 d) os).cell? ⟨w.heap.size, 11, none⟩ = some (.slice e.fp.a e.fp.n e.fp.c) := fun d os => cell_regrown (HX1.out.cell (j := 11) rfl) d os
  have q12 : ∀ (d : Nat) (os : Array Obj), (grow (redrawn w1 d) os).cell? ⟨w.heap.size, 12, none⟩ = some (.int .i64 e.ab) := fun d os => cell_regrown (HX1.out.cell (j := 12) rfl) d os
  have q13 : ∀ (d : Nat) (os : Array Obj), (grow (redrawn w1 d) os).cell? ⟨w.heap.size, 13, none⟩ = some (.int .i64 e.xt) := fun d os => cell_regrown (HX1.out.cell (j := 13) rfl) d os
  have q14 : ∀ (d : Nat) (os : Array Obj), (grow (redrawn w1 d) os).cell? ⟨w.heap.size, 14, none⟩ = some (.slice e.xp.a e.xp.n e.xp.c) := fun d os => cell_regrown (HX1.out.cell (j := 14) rfl) d os
  have q16 : ∀ (d : Nat) (os : Array Obj), (grow (redrawn w1 d) os).cell? ⟨w.heap.size, 16, none⟩ = some (.bool e.dn) := fun d os => cell_regrown (HX1.out.cell (j := 16) rfl) d os
  have q17 : ∀ (d : Nat) (os : Array Obj), (grow (redrawn w1 d) os).cell? ⟨w.heap.size, 17, none⟩ = some (.int .i64 e.vt) := fun d os => cell_regrown (HX1.out.cell (j := 17) rfl) d os
  have q18 : ∀ (d : Nat) (os : Array Obj), (grow (redrawn w1 d) os).cell? ⟨w.heap.size, 18, none⟩ = some (.slice e.vp.a e.vp.n e.vp.c) := fun d os => cell_regrown (HX1.out.cell (j := 18) rfl) d os
  have hq1 := quietB (w1 := w1) (fun W hW => G1.out W (HB.out.trans (hW.mono HB.out.size)))
  have hq2 := quietB (w1 := w1) (fun W hW => G2.out W (HB.out.trans (hW.mono HB.out.size)))
  have hq3 := quietB (w1 := w1) (fun W hW => G3.out W (HB.out.trans (hW.mono HB.out.size)))
  have hq4 := quietB (w1 := w1) (fun W hW => G4.out W (HB.out.trans (hW.mono HB.out.size)))
  have hq5 := quietB (w1 := w1) (fun W hW => G5.out W (HB.out.trans (hW.mono HB.out.size)))
  have hq6 := quietB (w1 := w1) (fun W hW => G6.out W (HB.out.trans (hW.mono HB.out.size)))
  have hq7 := quietB (w1 := w1) (fun W hW => G7.out W (HB.out.trans (hW.mono HB.out.size)))
  refine wpAny_rest4 rfl (by kernel_rfl) (by kernel_rfl) ?_
  repeat (go_big_quiet_step (first | with_reducible exact hq1 _ _ | with_reducible exact hq2 _ _ | with_reducible exact hq3 _ _ | with_reducible exact hq4 _ _ | with_reducible exact hq5 _ _ | with_reducible exact hq6 _ _ | with_reducible exact hq7 _ _))
  refine wpQuiet_nil ?_
  rintro _ ⟨⟨dq, osq⟩, rfl⟩
  go_wp2
  go_ret
  exact ⟨rfl, HB.out.trans ((below_regrown w1 dq osq).mono HB.out.size)⟩
end Go.Proofs.YtogoibigabpkhaaGreat
/- Entries by value: the program's Right, all ways; the law's same. -/


namespace Go.Proofs.YtogoibigabpkhaaGreat
set_option linter.unusedVariables false
open Go.RowKit Go.Sort
open Go.Lib (hid)

def rightP (e : Ev) (f a v : List C7) : Bool := e.c.ok && withinB e.pr 1048576 && withinB e.ab 1048576 && timesB e.lo e.hi && mustB e.ft f (!noneB e.ft f) && mustB e.xt a (decide (0 < e.ab)) && mustB e.vt v e.dn
theorem must_none {t : Int} {l : List C7} : mustB t l (!noneB t l) = mustB t l (!decide (t = 0)) := by
  by_cases ht : t = 0
  · subst ht
    have hF : fullB 0 l = false := by unfold fullB; rfl
    unfold mustB
    rw [hF]
    cases noneB 0 l <;> rfl
  · have hN : noneB t l = false := by unfold noneB; simp [ht]
    rw [hN]
    have : (!decide (t = 0)) = true := by simp [ht]
    rw [this]; rfl
theorem rightP_eq (e : Ev) (f a v : List C7) : rightP e f a v = rightE e f a v := by
  unfold rightP rightE
  rw [must_none]
  rcases h : withinB e.ab 1048576 with _ | _
  · simp
  · have h0 : 0 ≤ e.ab := by unfold withinB at h; simp at h; exact h.1
    have : decide (0 < e.ab) = !decide (e.ab = 0) := by
      rw [Bool.eq_iff_iff]; simp; omega
    rw [this]
    cases e.c.ok <;> cases withinB e.pr 1048576 <;> cases timesB e.lo e.hi <;> simp
theorem below_of_same {W : World} {e e' : Ending} {w' : World} (h : e = e' ∧ W = w') : e = e' ∧ Below W.heap.size W w' := ⟨h.1, h.2 ▸ Below.refl _ _⟩

theorem cRightE {e : Ev} {f a v : List C7} {w : World} (hf : Sl w e.fp.v f) (ha : Sl w e.xp.v a) (hv : Sl w e.vp.v v) (lf : f.length ≤ 1024) (la : a.length ≤ 1024) (lv : v.length ≤ 1024) :
    Calls Tryz.prog 68 #[.agg e.arr] w fun x w' => x = .returned (.bool (rightE e f a v)) ∧ Below w.heap.size w w' := by
  rw [← rightP_eq]
  have hO : ∀ (W : World) (u : Value), Sl W u [e.c] → Calls Tryz.prog 65 #[u] W fun x w' => x = .returned (.bool e.c.ok) ∧ Below W.heap.size W w' := fun W u hu => by
    have := cRight' hu (by simp)
    simpa using this
  have hn : e.fp.n = f.length := by
    obtain ⟨_, _, cap, a, hv', _⟩ := id hf
    injection hv' with h1 h2 h3
  have h1 := fun (W : World) (_ : Below w.heap.size w W) => (cBallot e.pr W).mono fun _ _ h => below_of_same h
  have h2 := fun (W : World) (_ : Below w.heap.size w W) => (cBallot e.ab W).mono fun _ _ h => below_of_same h
  have h3 := fun (W : World) (_ : Below w.heap.size w W) => (cTimes e.lo e.hi W).mono fun _ _ h => below_of_same h
  have h4 := fun (W : World) (_ : Below w.heap.size w W) => cNone (a := e.fp.a) (cap := e.fp.c) (l := f) (w := W) e.ft hn
  have h5 := fun (W : World) (hB : Below w.heap.size w W) => cMust e.ft (!noneB e.ft f) (hf.on hB) lf
  have h6 := fun (W : World) (hB : Below w.heap.size w W) => cMust e.xt (decide (0 < e.ab)) (ha.on hB) la
  have h7 := fun (W : World) (hB : Below w.heap.size w W) => cMust e.vt e.dn (hv.on hB) lv
  rcases b0 : e.c.ok with _ | _
  · rw [b0] at hO
    have : rightP e f a v = false := by unfold rightP; rw [b0]; rfl
    rw [this]
    exact cRight_0 (bn := true) hO
  rw [b0] at hO
  rcases b1 : withinB e.pr 1048576 with _ | _
  · rw [b1] at h1
    have : rightP e f a v = false := by unfold rightP; rw [b0, b1]; rfl
    rw [this]
    exact cRight_1 (bn := true) hO h1
  rw [b1] at h1
  rcases b2 : withinB e.ab 1048576 with _ | _
  · rw [b2] at h2
    have : rightP e f a v = false := by unfold rightP; rw [b0, b1, b2]; rfl
    rw [this]
    exact cRight_2 (bn := true) hO h1 h2
  rw [b2] at h2
  rcases b3 : timesB e.lo e.hi with _ | _
  · rw [b3] at h3
    have : rightP e f a v = false := by unfold rightP; rw [b0, b1, b2, b3]; rfl
    rw [this]
    exact cRight_3 (bn := true) hO h1 h2 h3
  rw [b3] at h3
  rcases b5 : mustB e.ft f (!noneB e.ft f) with _ | _
  · rw [b5] at h5
    have : rightP e f a v = false := by unfold rightP; rw [b0, b1, b2, b3, b5]; rfl
    rw [this]
    exact cRight_4 hO h1 h2 h3 h4 h5
  rw [b5] at h5
  rcases b6 : mustB e.xt a (decide (0 < e.ab)) with _ | _
  · rw [b6] at h6
    have : rightP e f a v = false := by unfold rightP; rw [b0, b1, b2, b3, b5, b6]; rfl
    rw [this]
    exact cRight_5 hO h1 h2 h3 h4 h5 h6
  rw [b6] at h6
  rcases b7 : mustB e.vt v e.dn with _ | _
  · rw [b7] at h7
    have : rightP e f a v = false := by unfold rightP; rw [b0, b1, b2, b3, b5, b6, b7]; rfl
    rw [this]
    exact cRight_6 hO h1 h2 h3 h4 h5 h6 h7
  rw [b7] at h7
  have : rightP e f a v = true := by unfold rightP; rw [b0, b1, b2, b3, b5, b6, b7]; rfl
  rw [this]
  exact cRight_7 hO h1 h2 h3 h4 h5 h6 h7

theorem quietR {C : World → Prop} {K : Act → Prop} {o : Oper} {a : Act} {x : Operand} {q : Nat} {T : TypeId} (e : Ev) (ho : o.op = .load 74 x) (hx : a.eval x = .pointer (some ⟨q, 0, none⟩)) (hC : ∀ w, C w → Ob w q T e) (hK : K (a.put o.dst (.agg e.arr))) : o.quiet Tryz.prog a C K :=
  ⟨_, fun w hw => by unfold Oper.quietAt execOp; simp only [ho, hx, Instr.loadAt, Instr.sureAddr, Sem.run_bind, Sem.run_pure, Result.andThen_ok, run_loadVar_mid w q 0 74 e.list _ (hC w hw).range Tryz.underlying74 rfl (infoE e)]; exact ⟨rfl, rfl⟩, hK⟩
theorem quietC {C : World → Prop} {K : Act → Prop} {o : Oper} {a : Act} {x : Operand} {q : Nat} {T : TypeId} (e : Ev) (ho : o.op = .load 44 x) (hx : a.eval x = .pointer (some ⟨q, 0, none⟩)) (hC : ∀ w, C w → Ob w q T e) (hK : K (a.put o.dst (.agg e.arr))) : o.quiet Tryz.prog a C K :=
  ⟨_, fun w hw => by unfold Oper.quietAt execOp; simp only [ho, hx, Instr.loadAt, Instr.sureAddr, Sem.run_bind, Sem.run_pure, Result.andThen_ok, run_loadVar_mid w q 0 44 e.list _ (hC w hw).range Tryz.underlying44 rfl (infoEc e)]; exact ⟨rfl, rfl⟩, hK⟩
theorem obGrown {w1 : World} {q : Nat} {T : TypeId} {e : Ev} (h : Ob w1 q T e) : ∀ W, (∃ p : Regrown, W = grow (redrawn w1 p.d) p.os) → Ob W q T e := by
  rintro W ⟨p, rfl⟩
  exact heapB h (below_regrown w1 p.d p.os) (Array.getElem?_eq_some_iff.1 h).1

end Go.Proofs.YtogoibigabpkhaaGreat
