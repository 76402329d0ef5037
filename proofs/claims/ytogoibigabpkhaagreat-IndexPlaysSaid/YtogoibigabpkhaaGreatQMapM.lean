import Derived.Test.YtogoibigabpkhaaGreatG19
import Derived.Maps.OwnSet
/- The program's index: an entry by its name; Get; keep. -/
namespace Go.Proofs.YtogoibigabpkhaaGreat
set_option linter.unusedVariables false
open Go.RowKit
open Go.Lib (hid)

/-- What the map tells of a name. -/
def lookE (xs : List En) (i : Int) : Ev := match lookG En.id xs i with | some x => x.e | none => zE
def hasE (xs : List En) (i : Int) : Bool := (lookG En.id xs i).isSome
theorem lookE_some {xs : List En} {i : Int} {x : En} (h : lookG En.id xs i = some x) : lookE xs i = x.e ∧ hasE xs i = true := by unfold lookE hasE; rw [h]; exact ⟨rfl, rfl⟩
theorem lookE_none {xs : List En} {i : Int} (h : lookG En.id xs i = none) : lookE xs i = zE ∧ hasE xs i = false := by unfold lookE hasE; rw [h]; exact ⟨rfl, rfl⟩
theorem run_look {w : World} {b n : Nat} {xs : List En} (h : Mp w b n xs) {i : Int} (hw : (Lit.int .i64 i).wf = true) :
    Sem.run Tryz.prog (Instr.lookup 69 (.map (some b)) (.int .i64 i) true) w = .ok (.tuple #[.agg (lookE xs i).arr, .bool (hasE xs i)]) w := by
  obtain ⟨D, hD, hS⟩ := h
  have hz : (zeroValue 44).run Tryz.prog w = .ok (.agg zE.arr) w := Tryz.zeroValue44 w
  obtain ⟨v, ps, hrun, hv⟩ := hD.look_ok (Maps.int_keyed Tryz.underlying3) Tryz.underlying69 hz (RE_mk zE) (key := .int .i64 i) (kl := key i) (Maps.keyOf_int_mk Tryz.underlying3 hw)
  rw [hrun]
  rcases hl : lookG En.id xs i with _ | x
  · obtain ⟨h1, h2⟩ := lookE_none hl
    rw [h1, h2]
    have hh := (hS i).2 hl
    rw [Maps.atKey_of_not_has hh] at hv
    obtain ⟨e, rfl, he⟩ := RE_inv hv
    have : e = zE := ev_inj (Value.agg.inj (DataW.held.inj (Prod.mk.inj he).1)).symm
    rw [this, hh]
  · obtain ⟨h1, h2⟩ := lookE_some hl
    obtain ⟨h3, h4⟩ := (hS i).1 x hl
    rw [h1, h2]
    rw [h4] at hv
    obtain ⟨e, rfl, he⟩ := RE_inv hv
    have : e = x.e := ev_inj (Value.agg.inj (DataW.held.inj (Prod.mk.inj he).1)).symm
    rw [this, h3]

set_option maxHeartbeats 2000000 in
set_option maxRecDepth 100000 in
theorem cGet {w : World} {x b b2 n : Nat} {nd c : Int} {xs : List En} {ids : List Int} (h : Ix w x b b2 n nd c xs ids) {i : Int} (hw : (Lit.int .i64 i).wf = true) :
    Calls Tryz.prog 18 #[ptr x, .int .i64 i] w fun e w' => e = .returned (.tuple #[.agg (lookE xs i).arr, .bool (hasE xs i)]) ∧ Below w.heap.size w w' := by
  have hM := fun W (hb : Below w.heap.size w W) => cMade (h.on hb)
  have hL := fun W (hb : Below w.heap.size w W) => run_look (h.on hb).mp hw
  have hC := fun W (hb : Below w.heap.size w W) => (h.on hb).cells
  generalize lookE xs i = e at hL ⊢
  generalize hasE xs i = d at hL ⊢
  clear h hw
  have HC := hid hC
  have HL := hid hL
  have HZ : Hid (Ob (w.alloc zeroEc) w.heap.size 44 zE) := hid (heap_alloc_new w _)
  have HW : Hid (Below w.heap.size w (w.alloc zeroEc)) := hid ((Below.refl _ w).alloc (Nat.le_refl _) _)
  clear hC hL
  go_enter Tryz.func18, Tryz.ntmps18
  go_wp2_with fail
  generalize w.alloc zeroEc = W1 at HZ HW ⊢
  have HQ := hid (show w.heap.size ≤ W1.heap.size from HW.out.size)
  have hL1 := HL.out W1 HW.out
  obtain ⟨k0, k1, k2, k3, f1⟩ := HC.out W1 HW.out
  go_wp2_with (first
    | (go_at_call 41; refine (hM W1 HW.out).mono ?_; rintro y w' ⟨rfl, rfl⟩)
    | ((with_reducible refine storeC (x := ?sx1) (y := ?sy1) (b := W1.heap.size) (T := 44) e ?sg1 ?so1 ?sxx1 ?syy1 ?sc1 ?_); (case sg1 => rfl); (case so1 => rfl); (case sxx1 => rfl); (case syy1 => rfl); (case sc1 => exact zeroRoom W1); intro W2 hO2 hU2
       have hb2 : Below W1.heap.size W1 W2 := ((Below.refl _ W1).alloc (Nat.le_refl _) _).trans (hU2.below _ (Nat.le_refl _))
       have HO2 := hid hO2
       have HZ2 : Hid (Ob W2 w.heap.size 44 zE) := hid (heapB HZ.out hb2 (Array.getElem?_eq_some_iff.1 HZ.out).1)
       have HW2 := hid (HW.out.trans (hb2.mono HQ.out))
       clear hO2 hU2 hb2)
    | ((with_reducible refine loadC (x := ?cx2) (b := W1.heap.size) (T := 44) e ?cg2 ?co2 ?cxx2 ?cc2 ?_); (case cg2 => rfl); (case co2 => rfl); (case cxx2 => rfl); (case cc2 => exact HO2.out))
    | ((with_reducible refine storeC (x := ?sx3) (y := ?sy3) (b := w.heap.size) (T := 44) e ?sg3 ?so3 ?sxx3 ?syy3 ?sc3 ?_); (case sg3 => rfl); (case so3 => rfl); (case sxx3 => rfl); (case syy3 => rfl); (case sc3 => exact HZ2.out.room); intro W3 hO3 hU3
       have HO3 := hid hO3
       have HW3 := hid (HW2.out.trans (hU3.below _ (Nat.le_refl _)))
       clear hO3 hU3)
    | fail)
  refine bodyPost_ret (ret_cell_tmp rfl rfl rfl HO3.out.range Tryz.underlying44 rfl (infoEc e)) rfl ⟨rfl, HW3.out⟩
theorem cGet_nil (i : Int) (w : World) : Calls Tryz.prog 18 #[.pointer none, .int .i64 i] w fun e w' => e = .returned (.tuple #[.agg zE.arr, .bool false]) ∧ Below w.heap.size w w' := by
  have HZ : Hid (Ob (w.alloc zeroEc) w.heap.size 44 zE) := hid (heap_alloc_new w _)
  have HW : Hid (Below w.heap.size w (w.alloc zeroEc)) := hid ((Below.refl _ w).alloc (Nat.le_refl _) _)
  go_enter Tryz.func18, Tryz.ntmps18
  go_wp2_with fail
  generalize w.alloc zeroEc = W1 at HZ HW ⊢
  go_wp2_with (first
    | (go_at_call 41; refine (cMade_nil W1).mono ?_; rintro y w' ⟨rfl, rfl⟩)
    | ((with_reducible refine storeC (x := ?sx3) (y := ?sy3) (b := w.heap.size) (T := 44) zE ?sg3 ?so3 ?sxx3 ?syy3 ?sc3 ?_); (case sg3 => rfl); (case so3 => rfl); (case sxx3 => rfl); (case syy3 => rfl); (case sc3 => exact HZ.out.room); intro W3 hO3 hU3
       have HO3 := hid hO3
       have HW3 := hid (HW.out.trans (hU3.below _ (Nat.le_refl _)))
       clear hO3 hU3)
    | fail)
  refine bodyPost_ret (ret_cell_tmp rfl rfl rfl HO3.out.range Tryz.underlying44 rfl (infoEc zE)) rfl ⟨rfl, HW3.out⟩

section
variable {P : Program} {md : Region.Mode} {S : World → Prop} {ops : Array Oper} {i : Nat} {o : Oper} {rs : List Nat} {fuel : Nat} {listed listed' : Array Bool} {a a' : Act} {w : World} {Q : Exit → Act → World → Prop}
theorem rh_takeS {v : Value} (hi : ops[i]? = some o) (hs : Region.noSelect ops = true) (hf : Region.free md ops listed i = true) (hr : (Region.ready md ops listed).contains i = true)
    (hQ : ∀ c a w, Q (.panic c) (a.put o.dst v) w → Q (.panic c) a w) (hl : listed.setIfInBounds i true = listed') (hw : Region.wanted o (yielded ops a.tmps) = true) (hv : ∀ w, S w → (execOp a.eval o).run P w = .ok (.value v) w) (ha : a.put o.dst v = a') (hS : S w) (h : wpAnyH P md ops Q S fuel listed' a' w) : wpAnyH P md ops Q S (fuel + 1) listed a w := by
  subst hl ha
  exact wpAnyH_take hi hs hf hr hQ (.inl ⟨hw, hv⟩) hS h
end
set_option maxHeartbeats 4000000 in
set_option maxRecDepth 100000 in
theorem cKeep {w : World} {x b b2 n : Nat} {nd c : Int} {xs : List En} {ids : List Int} {y : En} (h : Ix w x b b2 n nd c xs ids) (hn : n < maxLen) (hw : (Lit.int .i64 y.id).wf = true) :
    Calls Tryz.prog 67 #[ptr x, .agg y.e.arr] w fun r w' => r = .returned (.tuple #[]) ∧ Ix w' x b b2 (n + 1) nd c (xs ++ [y]) (ids ++ [y.id]) ∧ Tch (TI x b b2) w w' := by
  have HX : Hid ((w.alloc (.cells y.e.arr 44)).heap[w.heap.size]? = some (.cells y.e.arr 44)) := hid (heap_alloc_new w _)
  have HW : Hid (Below w.heap.size w (w.alloc (.cells y.e.arr 44))) := hid ((Below.refl _ w).alloc (Nat.le_refl _) _)
  have HJ : Hid (Ix (w.alloc (.cells y.e.arr 44)) x b b2 n nd c xs ids) := hid (h.on HW.out)
  have HL : Hid (x < w.heap.size ∧ b < w.heap.size ∧ b2 < w.heap.size) := hid h.lt
  have HE := hid (And.intro h.xb h.ne)
  clear h
  go_enter Tryz.func67, Tryz.ntmps67
  go_wp2_with fail
  obtain ⟨W0, hW0⟩ : ∃ W0, W0 = w.alloc (.cells y.e.arr 44) := ⟨_, rfl⟩
  rw [← hW0] at HX HW HJ ⊢
  clear hW0
  refine wp_region_still_tail 8 (by kernel_rfl) (by kernel_rfl) ?_
  obtain ⟨W1, hW1⟩ : ∃ W1 : World, W1 = { W0 with drawn := W0.drawn + 1 } := ⟨_, rfl⟩
  rw [← hW1]
  have HB1 : Hid (Below W0.heap.size W0 W1) := hid (by rw [hW1]; exact belowDrew (Below.refl _ W0))
  clear hW1
  replace HX : Hid (Ob W1 w.heap.size 44 y.e) := hid (heapB HX.out HB1.out (Array.getElem?_eq_some_iff.1 HX.out).1)
  replace HJ := hid (HJ.out.on HB1.out)
  replace HW := hid (HW.out.trans (HB1.out.mono HW.out.size))
  obtain ⟨k0, k1, k2, k3, f1⟩ := HJ.out.cells
  have k4 : W1.cell? ⟨w.heap.size, 0, none⟩ = some (.int .i64 y.e.c.i) := (cellAt' HX.out 0).trans rfl
  simp only [List.take_succ_cons, List.take_zero, List.drop_succ_cons, List.drop_zero]
  still_step
  still_step
  still_step
  still_step
  still_step
  still_step
  still_step
  refine stillC y.e rfl rfl rfl HX.out ?_
  refine wpStill_nil ?_
  obtain ⟨D, hD, hS⟩ := HJ.out.mp
  refine wpList_mapUpdate_own _ rfl _ _ _ 69 rfl 3 44 (Maps.int_keyed Tryz.underlying3) Tryz.underlying69 RE b n D rfl hD hn _ _ (key y.id) rfl rfl (Maps.keyOf_int_mk Tryz.underlying3 hw) _ [] (RE_mk y.e) ?_
  intro W2 hD2 hg
  have hT : Tch (fun k => k = b) W1 W2 := Tch.ofGrown hg fun k e => (Option.some.inj e).symm
  have HJ2 : Hid (Ix W2 x b b2 (n + 1) nd c (xs ++ [y]) ids) := hid ⟨hT.ob HJ.out.ob HE.out.1.1, ⟨_, hD2, hS.put (own_isMap hD) y⟩, (HJ.out.cg.keptT hT (fun e => HE.out.2 e.symm)).mono (by omega), HE.out.2⟩
  have HC2 : Hid (Cg W2 b2 n ids) := hid (HJ.out.cg.keptT hT (fun e => HE.out.2 e.symm))
  have HX2 : Hid (Ob W2 w.heap.size 44 y.e) := hid (hT.ob HX.out (by have := HL.out; omega))
  have HT2 : Hid (Tch (TI x b b2) w W2) := hid ((Tch.ofBelow HW.out).trans (hT.mono fun k e => .inr (.inl e)))
  clear hD hS hD2 hg hT HJ HW HX HB1 k0 k1 k2 k3 k4 f1
  go_wp2_with fail
  refine wp_region_still_tail 8 (by kernel_rfl) (by kernel_rfl) ?_
  obtain ⟨W3, hW3⟩ : ∃ W3 : World, W3 = { W2 with drawn := W2.drawn + 1 } := ⟨_, rfl⟩
  rw [← hW3]
  have HB3 : Hid (Below W2.heap.size W2 W3) := hid (by rw [hW3]; exact belowDrew (Below.refl _ W2))
  clear hW3
  replace HX : Hid (Ob W3 w.heap.size 44 y.e) := hid (heapB HX2.out HB3.out (Array.getElem?_eq_some_iff.1 HX2.out).1)
  replace HJ := hid (HJ2.out.on HB3.out)
  have HC := hid (HC2.out.on HB3.out)
  replace HT := hid (HT2.out.trans (Tch.ofBelow (S := TI x b b2) HB3.out))
  clear HX2 HJ2 HT2 HB3
  obtain ⟨k0, k1, k2, k3, f1⟩ := HJ.out.cells
  have k4 : W3.cell? ⟨w.heap.size, 0, none⟩ = some (.int .i64 y.e.c.i) := (cellAt' HX.out 0).trans rfl
  simp only [List.take_succ_cons, List.take_zero, List.drop_succ_cons, List.drop_zero]
  still_step
  still_step
  still_step
  still_step
  still_step
  still_step
  still_step
  still_step
  refine wpStill_nil ?_
  obtain ⟨D, hD, hS⟩ := HC.out
  refine wpList_mapUpdate_own _ rfl _ _ _ 70 rfl 3 99 (Maps.int_keyed Tryz.underlying3) Tryz.underlying70 unitElem b2 n D rfl hD hn _ _ (key y.id) rfl rfl (Maps.keyOf_int_mk Tryz.underlying3 hw) _ [] unitElem_mk ?_
  intro W4 hD4 hg4
  have hT4 : Tch (fun k => k = b2) W3 W4 := Tch.ofGrown hg4 fun k e => (Option.some.inj e).symm
  have HJ4 : Hid (Ix W4 x b b2 (n + 1) nd c (xs ++ [y]) (ids ++ [y.id])) := hid ⟨hT4.ob HJ.out.ob HE.out.1.2, HJ.out.mp.keptT hT4 HE.out.2, ⟨_, hD4, has_put (own_isMap hD) hS y.id _⟩, HE.out.2⟩
  have HT4 : Hid (Tch (TI x b b2) w W4) := hid (HT.out.trans (hT4.mono fun k e => .inr (.inr e)))
  clear hD hS hD4 hg4 hT4 HJ HX HT k0 k1 k2 k3 k4 f1
  go_wp2_with fail
  go_end0
  exact ⟨rfl, HJ4.out, HT4.out⟩
end Go.Proofs.YtogoibigabpkhaaGreat
