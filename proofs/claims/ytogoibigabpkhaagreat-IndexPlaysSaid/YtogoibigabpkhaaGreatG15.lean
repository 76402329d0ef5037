import Derived.Test.YtogoibigabpkhaaGreatG14
import Derived.Test.YtogoibigabpkhaaGreatG09
import Derived.Lib.QuietBelow
import Derived.BigQuiet
/- Entries by value, the program's own type: loads, stores; its Promise, Ahead, Holds. -/

namespace Go.Proofs.YtogoibigabpkhaaGreat
set_option linter.unusedVariables false
open Go.RowKit
open Go.Lib (hid)

abbrev boxEc (w : World) (e : Ev) : World := (w.alloc (.cells e.arr 44)).alloc zeroEc
theorem boxEc_range (w : World) (e : Ev) : (boxEc w e).rangeAt w.heap.size 0 e.list := World.rangeAt_alloc (rangeNew w e _) _
theorem boxEc_there (w : World) (e : Ev) : (boxEc w e).there (w.heap.size + 1) 0 19 := by
  have := thereNew (w.alloc (.cells e.arr 44)) #[.int .i64 0, .int .i64 0, .int .i64 0, .int .i64 0, .int .i64 0, .int .i64 0, .int .i64 0, .int .i64 0, .int .i64 0, .int .i64 0, .int .i64 0, .slice none 0 0, .int .i64 0, .int .i64 0, .slice none 0 0, .bool false, .bool false, .int .i64 0, .slice none 0 0] 44 19 (by decide)
  rwa [World.size_alloc] at this
theorem boxEc_frozen (w : World) (e : Ev) (j : Nat) : (boxEc w e).frozen? ⟨w.heap.size, j, none⟩ = false := by
  have h : (boxEc w e).heap[w.heap.size]? = some (.cells e.arr 44) := (Below.heap_alloc _ _ _ (by simp)).trans (heap_alloc_new w _)
  exact frozenAt h j
theorem boxEc_below (w : World) (e : Ev) : Below w.heap.size w (boxEc w e) := ((Below.refl _ w).alloc (Nat.le_refl _) _).alloc (by simp) _
theorem boxEc_cell (w : World) (e : Ev) {j : Nat} {v : Value} (h : e.list[j]? = some v) : (boxEc w e).cell? ⟨w.heap.size, j, none⟩ = some v := by
  have := boxEc_range w e j v h; rwa [Nat.zero_add] at this

set_option maxHeartbeats 1600000 in
set_option maxRecDepth 100000 in
theorem cAheadE (e : Ev) (t : Int) (w : World) : Calls Tryz.prog 56 #[.agg e.arr, .int .i64 t] w fun x w' => x = .returned (.bool (aheadE e t)) ∧ Below w.heap.size w w' := by
  have c8 := newE_cell w e 44 (j := 8) rfl
  have c16 := newE_cell w e 44 (j := 16) rfl
  have c17 := newE_cell w e 44 (j := 17) rfl
  have hb : Below w.heap.size w (w.alloc (.cells e.arr 44)) := (Below.refl _ w).alloc (Nat.le_refl _) _
  rcases hd : e.dn with _ | _
  · rw [hd] at c16
    have HE := hid (show aheadE e t = (!decide (e.lo = 0) && decide (e.lo < t)) by unfold aheadE; rw [hd]; rfl)
    clear hd
    by_cases h0 : e.lo = 0
    · go_enter Tryz.func56, Tryz.ntmps56
      go_wp2
      go_ret
      exact ⟨ret_bool (by rw [HE.out]; simp [h0]), hb⟩
    · go_enter Tryz.func56, Tryz.ntmps56
      go_wp2
      go_ret
      exact ⟨ret_bool (by rw [HE.out]; simp [h0]), hb⟩
  · rw [hd] at c16
    have HE := hid (show aheadE e t = decide (e.vt < t) by unfold aheadE; rw [hd]; rfl)
    clear hd
    go_enter Tryz.func56, Tryz.ntmps56
    go_wp2
    go_ret
    exact ⟨ret_bool (by rw [HE.out]), hb⟩

set_option maxHeartbeats 1600000 in
set_option maxRecDepth 100000 in
theorem cHoldsE (e : Ev) (t : Int) (w : World) : Calls Tryz.prog 59 #[.agg e.arr, .int .i64 t] w fun x w' => x = .returned (.bool (holdsE e t)) ∧ Below w.heap.size w w' := by
  have c9 := newE_cell w e 44 (j := 9) rfl
  have c16 := newE_cell w e 44 (j := 16) rfl
  have hb : Below w.heap.size w (w.alloc (.cells e.arr 44)) := (Below.refl _ w).alloc (Nat.le_refl _) _
  rcases hd : e.dn with _ | _
  all_goals (
    rw [hd] at c16
    have HE := hid (show holdsE e t = (!e.dn && decide (t < e.hi)) from rfl)
    rw [hd] at HE
    clear hd
    go_enter Tryz.func59, Tryz.ntmps59
    go_wp2
    go_ret
    exact ⟨ret_bool (by rw [HE.out]; simp), hb⟩)
end Go.Proofs.YtogoibigabpkhaaGreat
/- Entries by value, the program's own: Reserve, Vote. -/

namespace Go.Proofs.YtogoibigabpkhaaGreat
set_option linter.unusedVariables false
open Go.RowKit
open Go.Lib (hid)

end Go.Proofs.YtogoibigabpkhaaGreat
/- Entries by value, the program's own: Free, Accept, Finish. -/
namespace Go.Proofs.YtogoibigabpkhaaGreat
set_option linter.unusedVariables false
open Go.RowKit
open Go.Lib (hid)

def accE (e : Ev) (b t : Int) (p : Sv) (full : Bool) : Ev × Int := if full = false ∨ withinB b 1048576 = false ∨ b = 0 then (e, 1) else if b < e.pr then (e, 11) else ({ (resE e t).1 with pr := b, ab := b, xt := t, xp := p }, 0)

def finC (e : Ev) (t : Int) (p : Sv) (full same : Bool) : Ev × Int := if full = false then (e, 1) else if e.dn = true then (if same = true then (e, 0) else (e, 6)) else ({ e with dn := true, vt := t, vp := p }, 0)

end Go.Proofs.YtogoibigabpkhaaGreat
/- A region that draws its order: its first four operations come in one order alone, the rest only reads. -/
namespace Go.Proofs.YtogoibigabpkhaaGreat
set_option linter.unusedVariables false
open Go.RowKit Go.Sort
open Go.Lib (hid)

theorem wpAny_rest4 {P : Program} {o0 o1 o2 o3 : Oper} {l : List Oper} {w0 : World} {Q : Exit → Act → World → Prop} {fuel : Nat} {listed : Array Bool} {a : Act} (hf : fuel = l.length) (hs : Region.noSelect (o0 :: o1 :: o2 :: o3 :: l).toArray = true)
    (hB : Region.lexFrom .any (o0 :: o1 :: o2 :: o3 :: l).toArray l.length 4 listed = true) (h : wpQuiet P (o0 :: o1 :: o2 :: o3 :: l).toArray (fun w' => ∃ p : Regrown, w' = grow (redrawn w0 p.d) p.os) (fun a' => ∀ w', (∃ p : Regrown, w' = grow (redrawn w0 p.d) p.os) → Q .normal a' w') l a) :
    wpAny P .any (o0 :: o1 :: o2 :: o3 :: l).toArray Q fuel listed a w0 := by
  subst hf
  refine wpAny_of_quiet (C := fun w' => ∃ p : Regrown, w' = grow (redrawn w0 p.d) p.os) (Q := fun a' => ∀ w', (∃ p : Regrown, w' = grow (redrawn w0 p.d) p.os) → Q .normal a' w') (fun _ w' hw' h => h w' hw') _ _ _ _ ⟨⟨w0.drawn, #[]⟩, by rw [grow_empty]; rfl⟩ ?_
  exact wpAnyQ_lex hs l 4 listed a (fun j => by simp [Nat.add_comm 4 j]) hB h
theorem quietB {f : FuncId} {args : Array Value} {w1 : World} {v : Value} (h : ∀ W, Below w1.heap.size w1 W → Calls Tryz.prog f args W fun e w' => e = .returned v ∧ Below W.heap.size W w') (d : Nat) (os : Array Obj) :
    Calls Tryz.prog f args (grow (redrawn w1 d) os) fun e w'' => e = .returned v ∧ ∃ p : Regrown, w'' = grow (redrawn w1 p.d) p.os := Calls.regrown_of (h _ (below_regrown w1 d os))
theorem Sl.madeC {W : World} {g : Nat} {c : C7} {T : TypeId} (hg : g = W.heap.size) : Sl (W.alloc (.cells #[.int .i64 c.i, .int .i64 c.k, .int .i64 c.s, .int .i64 c.t, .int .i64 c.d, .int .i64 c.p, .int .i64 c.q] T)) (.slice (Option.some ⟨g, 0, none⟩) 1 1) [c] := by
  subst hg
  refine ⟨W.heap.size, 0, 1, _, rfl, (fun e => by cases e), fun _ => rfl, fun j d hd f v hv => ?_, fun _ => by simp⟩
  cases j with
  | succ j => cases hd
  | zero =>
    cases (show some c = some d from hd)
    rw [Nat.zero_add, Nat.zero_mul, Nat.zero_add, World.cell?_alloc_new]
    match f, hv with
    | 0, hv => exact hv
    | 1, hv => exact hv
    | 2, hv => exact hv
    | 3, hv => exact hv
    | 4, hv => exact hv
    | 5, hv => exact hv
    | 6, hv => exact hv
    | _ + 7, hv => cases hv
end Go.Proofs.YtogoibigabpkhaaGreat
/- Entries by value, the program's own: Right. -/
namespace Go.Proofs.YtogoibigabpkhaaGreat
set_option linter.unusedVariables false
open Go.RowKit Go.Sort
open Go.Lib (hid)


set_option maxHeartbeats 8000000 in
set_option maxRecDepth 100000 in
theorem cRight_0 {e : Ev} {w : World} {bn : Bool} (hO : ∀ (W : World) (v : Value), Sl W v [e.c] → Calls Tryz.prog 65 #[v] W fun x w' => x = .returned (.bool false) ∧ Below W.heap.size W w') :
    Calls Tryz.prog 68 #[.agg e.arr] w fun x w' => x = .returned (.bool false) ∧ Below w.heap.size w w' := by
  have HX : Hid (Ob ((w.alloc (.cells e.arr 44)).drew) w.heap.size 44 e) := hid (obDrew (heap_alloc_new w _))
  have HW : Hid (Below w.heap.size w ((w.alloc (.cells e.arr 44)).drew)) := hid (belowDrew ((Below.refl _ w).alloc (Nat.le_refl _) _))
  have c0 : ((w.alloc (.cells e.arr 44)).drew).cell? ⟨w.heap.size, 0, none⟩ = some (.int .i64 e.c.i) := HX.out.cell (j := 0) rfl
  have c1 : ((w.alloc (.cells e.arr 44)).drew).cell? ⟨w.heap.size, 1, none⟩ = some (.int .i64 e.c.k) := HX.out.cell (j := 1) rfl
  have c2 : ((w.alloc (.cells e.arr 44)).drew).cell? ⟨w.heap.size, 2, none⟩ = some (.int .i64 e.c.s) := HX.out.cell (j := 2) rfl
  have c3 : ((w.alloc (.cells e.arr 44)).drew).cell? ⟨w.heap.size, 3, none⟩ = some (.int .i64 e.c.t) := HX.out.cell (j := 3) rfl
  have c4 : ((w.alloc (.cells e.arr 44)).drew).cell? ⟨w.heap.size, 4, none⟩ = some (.int .i64 e.c.d) := HX.out.cell (j := 4) rfl
  have c5 : ((w.alloc (.cells e.arr 44)).drew).cell? ⟨w.heap.size, 5, none⟩ = some (.int .i64 e.c.p) := HX.out.cell (j := 5) rfl
  have c6 : ((w.alloc (.cells e.arr 44)).drew).cell? ⟨w.heap.size, 6, none⟩ = some (.int .i64 e.c.q) := HX.out.cell (j := 6) rfl
  have HS : Hid (Sl ((w.alloc (.cells e.arr 44)).alloc (.cells #[.int .i64 e.c.i, .int .i64 e.c.k, .int .i64 e.c.s, .int .i64 e.c.t, .int .i64 e.c.d, .int .i64 e.c.p, .int .i64 e.c.q] 40)).drew (.slice (some ⟨w.heap.size + 1, 0, none⟩) 1 1) [e.c]) := hid ((Sl.madeC (c := e.c) (T := 40) (W := (w.alloc (.cells e.arr 44))) (by simp)).on (belowDrew (Below.refl _ _)))
  have HBe : Hid (Below w.heap.size w ((w.alloc (.cells e.arr 44)).alloc (.cells #[.int .i64 e.c.i, .int .i64 e.c.k, .int .i64 e.c.s, .int .i64 e.c.t, .int .i64 e.c.d, .int .i64 e.c.p, .int .i64 e.c.q] 40)).drew) := hid (belowDrew (((Below.refl _ w).alloc (Nat.le_refl _) _).alloc (by simp) _))
  have HO : Hid _ := hid hO
  clear hO
  go_enter Tryz.func68, Tryz.ntmps68
  go_wp2_with fail
  refine wp_region_any (by kernel_rfl) ?_
  change wpAny _ _ _ _ _ _ _ (World.drew _)
  refine wpAny_ready (rs := [0]) (by kernel_rfl) (by simp) ?_
  refine AllReady.cons rfl (fun K hK => ?_) AllReady.nil
  go_simp
  refine hK _ _ ?_
  clear hK K
  refine wpAny_ready (rs := [1]) (by kernel_rfl) (by simp) ?_
  refine AllReady.cons rfl (fun K hK => ?_) AllReady.nil
  go_simp
  refine hK _ _ ?_
  clear hK K
  refine wpAny_ready (rs := [2]) (by kernel_rfl) (by simp) ?_
  refine AllReady.cons rfl (fun K hK => ?_) AllReady.nil
  go_simp
  refine hK _ _ ?_
  clear hK K
  refine wpAny_ready (rs := [3]) (by kernel_rfl) (by simp) ?_
  refine AllReady.cons rfl (fun K hK => ?_) AllReady.nil
  go_simp
  go_at_call 65
  refine (HO.out _ _ HS.out).mono ?_
  rintro x w1 ⟨rfl, hB⟩
  refine hK _ _ ?_
  clear hK K
  have HX1 : Hid (Ob w1 w.heap.size 44 e) := hid (heapB (obAlloc HX.out : _) hB (Array.getElem?_eq_some_iff.1 (obAlloc HX.out)).1)
  have HB : Hid (Below w.heap.size w w1) := hid (HBe.out.trans (hB.mono HBe.out.size))
  clear hB c0 c1 c2 c3 c4 c5 c6 HX HS

  refine wpAny_rest4 rfl (by kernel_rfl) (by kernel_rfl) ?_
  repeat (go_big_quiet_step (fail))
  refine wpQuiet_nil ?_
  rintro _ ⟨⟨dq, osq⟩, rfl⟩
  go_wp2
  go_ret
  exact ⟨rfl, HB.out.trans ((below_regrown w1 dq osq).mono HB.out.size)⟩

set_option maxHeartbeats 8000000 in
set_option maxRecDepth 100000 in
theorem cRight_1 {e : Ev} {w : World} {bn : Bool} (hO : ∀ (W : World) (v : Value), Sl W v [e.c] → Calls Tryz.prog 65 #[v] W fun x w' => x = .returned (.bool true) ∧ Below W.heap.size W w') (H1 : ∀ W, Below w.heap.size w W → Calls Tryz.prog 95 #[.int .i64 e.pr] W fun x w' => x = .returned (.bool false) ∧ Below W.heap.size W w') :
    Calls Tryz.prog 68 #[.agg e.arr] w fun x w' => x = .returned (.bool false) ∧ Below w.heap.size w w' := by
  have HX : Hid (Ob ((w.alloc (.cells e.arr 44)).drew) w.heap.size 44 e) := hid (obDrew (heap_alloc_new w _))
  have HW : Hid (Below w.heap.size w ((w.alloc (.cells e.arr 44)).drew)) := hid (belowDrew ((Below.refl _ w).alloc (Nat.le_refl _) _))
  have c0 : ((w.alloc (.cells e.arr 44)).drew).cell? ⟨w.heap.size, 0, none⟩ = some (.int .i64 e.c.i) := HX.out.cell (j := 0) rfl
  have c1 : ((w.alloc (.cells e.arr 44)).drew).cell? ⟨w.heap.size, 1, none⟩ = some (.int .i64 e.c.k) := HX.out.cell (j := 1) rfl
  have c2 : ((w.alloc (.cells e.arr 44)).drew).cell? ⟨w.heap.size, 2, none⟩ = some (.int .i64 e.c.s) := HX.out.cell (j := 2) rfl
  have c3 : ((w.alloc (.cells e.arr 44)).drew).cell? ⟨w.heap.size, 3, none⟩ = some (.int .i64 e.c.t) := HX.out.cell (j := 3) rfl
  have c4 : ((w.alloc (.cells e.arr 44)).drew).cell? ⟨w.heap.size, 4, none⟩ = some (.int .i64 e.c.d) := HX.out.cell (j := 4) rfl
  have c5 : ((w.alloc (.cells e.arr 44)).drew).cell? ⟨w.heap.size, 5, none⟩ = some (.int .i64 e.c.p) := HX.out.cell (j := 5) rfl
  have c6 : ((w.alloc (.cells e.arr 44)).drew).cell? ⟨w.heap.size, 6, none⟩ = some (.int .i64 e.c.q) := HX.out.cell (j := 6) rfl
  have HS : Hid (Sl ((w.alloc (.cells e.arr 44)).alloc (.cells #[.int .i64 e.c.i, .int .i64 e.c.k, .int .i64 e.c.s, .int .i64 e.c.t, .int .i64 e.c.d, .int .i64 e.c.p, .int .i64 e.c.q] 40)).drew (.slice (some ⟨w.heap.size + 1, 0, none⟩) 1 1) [e.c]) := hid ((Sl.madeC (c := e.c) (T := 40) (W := (w.alloc (.cells e.arr 44))) (by simp)).on (belowDrew (Below.refl _ _)))
  have HBe : Hid (Below w.heap.size w ((w.alloc (.cells e.arr 44)).alloc (.cells #[.int .i64 e.c.i, .int .i64 e.c.k, .int .i64 e.c.s, .int .i64 e.c.t, .int .i64 e.c.d, .int .i64 e.c.p, .int .i64 e.c.q] 40)).drew) := hid (belowDrew (((Below.refl _ w).alloc (Nat.le_refl _) _).alloc (by simp) _))
  have HO : Hid _ := hid hO
  clear hO
  have G1 : Hid _ := hid H1
  clear H1
  go_enter Tryz.func68, Tryz.ntmps68
  go_wp2_with fail
  refine wp_region_any (by kernel_rfl) ?_
  change wpAny _ _ _ _ _ _ _ (World.drew _)
  refine wpAny_ready (rs := [0]) (by kernel_rfl) (by simp) ?_
  refine AllReady.cons rfl (fun K hK => ?_) AllReady.nil
  go_simp
  refine hK _ _ ?_
  clear hK K
  refine wpAny_ready (rs := [1]) (by kernel_rfl) (by simp) ?_
  refine AllReady.cons rfl (fun K hK => ?_) AllReady.nil
  go_simp
  refine hK _ _ ?_
  clear hK K
  refine wpAny_ready (rs := [2]) (by kernel_rfl) (by simp) ?_
  refine AllReady.cons rfl (fun K hK => ?_) AllReady.nil
  go_simp
  refine hK _ _ ?_
  clear hK K
  refine wpAny_ready (rs := [3]) (by kernel_rfl) (by simp) ?_
  refine AllReady.cons rfl (fun K hK => ?_) AllReady.nil
  go_simp
  go_at_call 65
  refine (HO.out _ _ HS.out).mono ?_
  rintro x w1 ⟨rfl, hB⟩
  refine hK _ _ ?_
  clear hK K
  have HX1 : Hid (Ob w1 w.heap.size 44 e) := hid (heapB (obAlloc HX.out : _) hB (Array.getElem?_eq_some_iff.1 (obAlloc HX.out)).1)
  have HB : Hid (Below w.heap.size w w1) := hid (HBe.out.trans (hB.mono HBe.out.size))
  clear hB c0 c1 c2 c3 c4 c5 c6 HX HS
  have q7 : ∀ (d : Nat) (os : Array Obj), (grow (redrawn w1 d) os).cell? ⟨w.heap.size, 7, none⟩ = some (.int .i64 e.pr) := fun d os => cell_regrown (HX1.out.cell (j := 7) rfl) d os
  have hq1 := quietB (w1 := w1) (fun W hW => G1.out W (HB.out.trans (hW.mono HB.out.size)))
  refine wpAny_rest4 rfl (by kernel_rfl) (by kernel_rfl) ?_
  repeat (go_big_quiet_step (first | with_reducible exact hq1 _ _))
  refine wpQuiet_nil ?_
  rintro _ ⟨⟨dq, osq⟩, rfl⟩
  go_wp2
  go_ret
  exact ⟨rfl, HB.out.trans ((below_regrown w1 dq osq).mono HB.out.size)⟩

set_option maxHeartbeats 8000000 in
set_option maxRecDepth 100000 in
theorem cRight_2 {e : Ev} {w : World} {bn : Bool} (hO : ∀ (W : World) (v : Value), Sl W v [e.c] → Calls Tryz.prog 65 #[v] W fun x w' => x = .returned (.bool true) ∧ Below W.heap.size W w') (H1 : ∀ W, Below w.heap.size w W → Calls Tryz.prog 95 #[.int .i64 e.pr] W fun x w' => x = .returned (.bool true) ∧ Below W.heap.size W w') (H2 : ∀ W, Below w.heap.size w W → Calls Tryz.prog 95 #[.int .i64 e.ab] W fun x w' => x = .returned (.bool false) ∧ Below W.heap.size W w') :
    Calls Tryz.prog 68 #[.agg e.arr] w fun x w' => x = .returned (.bool false) ∧ Below w.heap.size w w' := by
  have HX : Hid (Ob ((w.alloc (.cells e.arr 44)).drew) w.heap.size 44 e) := hid (obDrew (heap_alloc_new w _))
  have HW : Hid (Below w.heap.size w ((w.alloc (.cells e.arr 44)).drew)) := hid (belowDrew ((Below.refl _ w).alloc (Nat.le_refl _) _))
  have c0 : ((w.alloc (.cells e.arr 44)).drew).cell? ⟨w.heap.size, 0, none⟩ = some (.int .i64 e.c.i) := HX.out.cell (j := 0) rfl
  have c1 : ((w.alloc (.cells e.arr 44)).drew).cell? ⟨w.heap.size, 1, none⟩ = some (.int .i64 e.c.k) := HX.out.cell (j := 1) rfl
  have c2 : ((w.alloc (.cells e.arr 44)).drew).cell? ⟨w.heap.size, 2, none⟩ = some (.int .i64 e.c.s) := HX.out.cell (j := 2) rfl
  have c3 : ((w.alloc (.cells e.arr 44)).drew).cell? ⟨w.heap.size, 3, none⟩ = some (.int .i64 e.c.t) := HX.out.cell (j := 3) rfl
  have c4 : ((w.alloc (.cells e.arr 44)).drew).cell? ⟨w.heap.size, 4, none⟩ = some (.int .i64 e.c.d) := HX.out.cell (j := 4) rfl
  have c5 : ((w.alloc (.cells e.arr 44)).drew).cell? ⟨w.heap.size, 5, none⟩ = some (.int .i64 e.c.p) := HX.out.cell (j := 5) rfl
  have c6 : ((w.alloc (.cells e.arr 44)).drew).cell? ⟨w.heap.size, 6, none⟩ = some (.int .i64 e.c.q) := HX.out.cell (j := 6) rfl
  have HS : Hid (Sl ((w.alloc (.cells e.arr 44)).alloc (.cells #[.int .i64 e.c.i, .int .i64 e.c.k, .int .i64 e.c.s, .int .i64 e.c.t, .int .i64 e.c.d, .int .i64 e.c.p, .int .i64 e.c.q] 40)).drew (.slice (some ⟨w.heap.size + 1, 0, none⟩) 1 1) [e.c]) := hid ((Sl.madeC (c := e.c) (T := 40) (W := (w.alloc (.cells e.arr 44))) (by simp)).on (belowDrew (Below.refl _ _)))
  have HBe : Hid (Below w.heap.size w ((w.alloc (.cells e.arr 44)).alloc (.cells #[.int .i64 e.c.i, .int .i64 e.c.k, .int .i64 e.c.s, .int .i64 e.c.t, .int .i64 e.c.d, .int .i64 e.c.p, .int .i64 e.c.q] 40)).drew) := hid (belowDrew (((Below.refl _ w).alloc (Nat.le_refl _) _).alloc (by simp) _))
  have HO : Hid _ := hid hO
  clear hO
  have G1 : Hid _ := hid H1
  have G2 : Hid _ := hid H2
  clear H1 H2
  go_enter Tryz.func68, Tryz.ntmps68
  go_wp2_with fail
  refine wp_region_any (by kernel_rfl) ?_
  change wpAny _ _ _ _ _ _ _ (World.drew _)
  refine wpAny_ready (rs := [0]) (by kernel_rfl) (by simp) ?_
  refine AllReady.cons rfl (fun K hK => ?_) AllReady.nil
  go_simp
  refine hK _ _ ?_
  clear hK K
  refine wpAny_ready (rs := [1]) (by kernel_rfl) (by simp) ?_
  refine AllReady.cons rfl (fun K hK => ?_) AllReady.nil
  go_simp
  refine hK _ _ ?_
  clear hK K
  refine wpAny_ready (rs := [2]) (by kernel_rfl) (by simp) ?_
  refine AllReady.cons rfl (fun K hK => ?_) AllReady.nil
  go_simp
  refine hK _ _ ?_
  clear hK K
  refine wpAny_ready (rs := [3]) (by kernel_rfl) (by simp) ?_
  refine AllReady.cons rfl (fun K hK => ?_) AllReady.nil
  go_simp
  go_at_call 65
  refine (HO.out _ _ HS.out).mono ?_
  rintro x w1 ⟨rfl, hB⟩
  refine hK _ _ ?_
  clear hK K
  have HX1 : Hid (Ob w1 w.heap.size 44 e) := hid (heapB (obAlloc HX.out : _) hB (Array.getElem?_eq_some_iff.1 (obAlloc HX.out)).1)
  have HB : Hid (Below w.heap.size w w1) := hid (HBe.out.trans (hB.mono HBe.out.size))
  clear hB c0 c1 c2 c3 c4 c5 c6 HX HS
  have q7 : ∀ (d : Nat) (os : Array Obj), (grow (redrawn w1 d) os).cell? ⟨w.heap.size, 7, none⟩ = some (.int .i64 e.pr) := fun d os => cell_regrown (HX1.out.cell (j := 7) rfl) d os
  have q12 : ∀ (d : Nat) (os : Array Obj), (grow (redrawn w1 d) os).cell? ⟨w.heap.size, 12, none⟩ = some (.int .i64 e.ab) := fun d os => cell_regrown (HX1.out.cell (j := 12) rfl) d os
  have hq1 := quietB (w1 := w1) (fun W hW => G1.out W (HB.out.trans (hW.mono HB.out.size)))
  have hq2 := quietB (w1 := w1) (fun W hW => G2.out W (HB.out.trans (hW.mono HB.out.size)))
  refine wpAny_rest4 rfl (by kernel_rfl) (by kernel_rfl) ?_
  repeat (go_big_quiet_step (first | with_reducible exact hq1 _ _ | with_reducible exact hq2 _ _))
  refine wpQuiet_nil ?_
  rintro _ ⟨⟨dq, osq⟩, rfl⟩
  go_wp2
  go_ret
  exact ⟨rfl, HB.out.trans ((below_regrown w1 dq osq).mono HB.out.size)⟩

set_option maxHeartbeats 8000000 in
set_option maxRecDepth 100000 in
theorem cRight_3 {e : Ev} {w : World} {bn : Bool} (hO : ∀ (W : World) (v : Value), Sl W v [e.c] → Calls Tryz.prog 65 #[v] W fun x w' => x = .returned (.bool true) ∧ Below W.heap.size W w') (H1 : ∀ W, Below w.heap.size w W → Calls Tryz.prog 95 #[.int .i64 e.pr] W fun x w' => x = .returned (.bool true) ∧ Below W.heap.size W w') (H2 : ∀ W, Below w.heap.size w W → Calls Tryz.prog 95 #[.int .i64 e.ab] W fun x w' => x = .returned (.bool true) ∧ Below W.heap.size W w') (H3 : ∀ W, Below w.heap.size w W → Calls Tryz.prog 96 #[.int .i64 e.lo, .int .i64 e.hi] W fun x w' => x = .returned (.bool false) ∧ Below W.heap.size W w') :
    Calls Tryz.prog 68 #[.agg e.arr] w fun x w' => x = .returned (.bool false) ∧ Below w.heap.size w w' := by
  have HX : Hid (Ob ((w.alloc (.cells e.arr 44)).drew) w.heap.size 44 e) := hid (obDrew (heap_alloc_new w _))
  have HW : Hid (Below w.heap.size w ((w.alloc (.cells e.arr 44)).drew)) := hid (belowDrew ((Below.refl _ w).alloc (Nat.le_refl _) _))
  have c0 : ((w.alloc (.cells e.arr 44)).drew).cell? ⟨w.heap.size, 0, none⟩ = some (.int .i64 e.c.i) := HX.out.cell (j := 0) rfl
  have c1 : ((w.alloc (.cells e.arr 44)).drew).cell? ⟨w.heap.size, 1, none⟩ = some (.int .i64 e.c.k) := HX.out.cell (j := 1) rfl
  have c2 : ((w.alloc (.cells e.arr 44)).drew).cell? ⟨w.heap.size, 2, none⟩ = some (.int .i64 e.c.s) := HX.out.cell (j := 2) rfl
  have c3 : ((w.alloc (.cells e.arr 44)).drew).cell? ⟨w.heap.size, 3, none⟩ = some (.int .i64 e.c.t) := HX.out.cell (j := 3) rfl
  have c4 : ((w.alloc (.cells e.arr 44)).drew).cell? ⟨w.heap.size, 4, none⟩ = some (.int .i64 e.c.d) := HX.out.cell (j := 4) rfl
  have c5 : ((w.alloc (.cells e.arr 44)).drew).cell? ⟨w.heap.size, 5, none⟩ = some (.int .i64 e.c.p) := HX.out.cell (j := 5) rfl
  have c6 : ((w.alloc (.cells e.arr 44)).drew).cell? ⟨w.heap.size, 6, none⟩ = some (.int .i64 e.c.q) := HX.out.cell (j := 6) rfl
  have HS : Hid (Sl ((w.alloc (.cells e.arr 44)).alloc (.cells #[.int .i64 e.c.i, .int .i64 e.c.k, .int .i64 e.c.s, .int .i64 e.c.t, .int .i64 e.c.d, .int .i64 e.c.p, .int .i64 e.c.q] 40)).drew (.slice (some ⟨w.heap.size + 1, 0, none⟩) 1 1) [e.c]) := hid ((Sl.madeC (c := e.c) (T := 40) (W := (w.alloc (.cells e.arr 44))) (by simp)).on (belowDrew (Below.refl _ _)))
  have HBe : Hid (Below w.heap.size w ((w.alloc (.cells e.arr 44)).alloc (.cells #[.int .i64 e.c.i, .int .i64 e.c.k, .int .i64 e.c.s, .int .i64 e.c.t, .int .i64 e.c.d, .int .i64 e.c.p, .int .i64 e.c.q] 40)).drew) := hid (belowDrew (((Below.refl _ w).alloc (Nat.le_refl _) _).alloc (by simp) _))
  have HO : Hid _ := hid hO
  clear hO
  have G1 : Hid _ := hid H1
  have G2 : Hid _ := hid H2
  have G3 : Hid _ := hid H3
  clear H1 H2 H3
  go_enter Tryz.func68, Tryz.ntmps68
  go_wp2_with fail
  refine wp_region_any (by kernel_rfl) ?_
  change wpAny _ _ _ _ _ _ _ (World.drew _)
  refine wpAny_ready (rs := [0]) (by kernel_rfl) (by simp) ?_
  refine AllReady.cons rfl (fun K hK => ?_) AllReady.nil
  go_simp
  refine hK _ _ ?_
  clear hK K
  refine wpAny_ready (rs := [1]) (by kernel_rfl) (by simp) ?_
  refine AllReady.cons rfl (fun K hK => ?_) AllReady.nil
  go_simp
  refine hK _ _ ?_
  clear hK K
  refine wpAny_ready (rs := [2]) (by kernel_rfl) (by simp) ?_
  refine AllReady.cons rfl (fun K hK => ?_) AllReady.nil
  go_simp
  refine hK _ _ ?_
  clear hK K
  refine wpAny_ready (rs := [3]) (by kernel_rfl) (by simp) ?_
  refine AllReady.cons rfl (fun K hK => ?_) AllReady.nil
  go_simp
  go_at_call 65
  refine (HO.out _ _ HS.out).mono ?_
  rintro x w1 ⟨rfl, hB⟩
  refine hK _ _ ?_
  clear hK K
  have HX1 : Hid (Ob w1 w.heap.size 44 e) := hid (heapB (obAlloc HX.out : _) hB (Array.getElem?_eq_some_iff.1 (obAlloc HX.out)).1)
  have HB : Hid (Below w.heap.size w w1) := hid (HBe.out.trans (hB.mono HBe.out.size))
  clear hB c0 c1 c2 c3 c4 c5 c6 HX HS
  have q7 : ∀ (d : Nat) (os : Array Obj), (grow (redrawn w1 d) os).cell? ⟨w.heap.size, 7, none⟩ = some (.int .i64 e.pr) := fun d os => cell_regrown (HX1.out.cell (j := 7) rfl) d os
  have q8 : ∀ (d : Nat) (os : Array Obj), (grow (redrawn w1 d) os).cell? ⟨w.heap.size, 8, none⟩ = some (.int .i64 e.lo) := fun d os => cell_regrown (HX1.out.cell (j := 8) rfl) d os
  have q9 : ∀ (d : Nat) (os : Array Obj), (grow (redrawn w1 d) os).cell? ⟨w.heap.size, 9, none⟩ = some (.int .i64 e.hi) := fun d os => cell_regrown (HX1.out.cell (j := 9) rfl) d os
  have q12 : ∀ (d : Nat) (os : Array Obj), (grow (redrawn w1 d) os).cell? ⟨w.heap.size, 12, none⟩ = some (.int .i64 e.ab) := fun d os => cell_regrown (HX1.out.cell (j := 12) rfl) d os
  have hq1 := quietB (w1 := w1) (fun W hW => G1.out W (HB.out.trans (hW.mono HB.out.size)))
  have hq2 := quietB (w1 := w1) (fun W hW => G2.out W (HB.out.trans (hW.mono HB.out.size)))
  have hq3 := quietB (w1 := w1) (fun W hW => G3.out W (HB.out.trans (hW.mono HB.out.size)))
  refine wpAny_rest4 rfl (by kernel_rfl) (by kernel_rfl) ?_
  repeat (go_big_quiet_step (first | with_reducible exact hq1 _ _ | with_reducible exact hq2 _ _ | with_reducible exact hq3 _ _))
  refine wpQuiet_nil ?_
  rintro _ ⟨⟨dq, osq⟩, rfl⟩
  go_wp2
  go_ret
  exact ⟨rfl, HB.out.trans ((below_regrown w1 dq osq).mono HB.out.size)⟩
end Go.Proofs.YtogoibigabpkhaaGreat
