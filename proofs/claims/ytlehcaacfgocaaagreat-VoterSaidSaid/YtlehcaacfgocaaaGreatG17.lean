import Derived.Test.YtlehcaacfgocaaaGreatQPrgZm
import Derived.Test.YtlehcaacfgocaaaGreatG09
import Derived.Maps.OwnSet
import Derived.Test.YtlehcaacfgocaaaGreatG14
namespace Go.Proofs.YtlehcaacfgocaaaGreat
set_option linter.unusedVariables false
open Go.RowKit
open Go.Lib (hid)
def lookE (xs : List En) (i : Int) : Ev := match lookG En.id xs i with | some x => x.e | none => zE
def hasE (xs : List En) (i : Int) : Bool := (lookG En.id xs i).isSome
theorem lookE_some {xs : List En} {i : Int} {x : En} (h : lookG En.id xs i = some x) : lookE xs i = x.e ∧ hasE xs i = true := by unfold lookE hasE; rw [h]; exact ⟨rfl, rfl⟩
theorem lookE_none {xs : List En} {i : Int} (h : lookG En.id xs i = none) : lookE xs i = zE ∧ hasE xs i = false := by unfold lookE hasE; rw [h]; exact ⟨rfl, rfl⟩
theorem run_look {w : World} {b n : Nat} {xs : List En} (h : Mp w b n xs) {i : Int} (hw : (Lit.int .i64 i).wf = true) :
    Sem.run Tryz.prog (Instr.lookup 83 (.map (some b)) (.int .i64 i) true) w = .ok (.tuple #[.agg (lookE xs i).arr, .bool (hasE xs i)]) w := by
  obtain ⟨D, hD, hS⟩ := h
  have hz : (zeroValue 67).run Tryz.prog w = .ok (.agg zE.arr) w := Tryz.zeroValue67 w
  obtain ⟨v, ps, hrun, hv⟩ := hD.look_ok (Maps.int_keyed Tryz.underlying3) Tryz.underlying83 hz (RE_mk zE) (key := .int .i64 i) (kl := key i) (Maps.keyOf_int_mk Tryz.underlying3 hw)
  rw [hrun]
  rcases hl : lookG En.id xs i with _ | x
  · obtain ⟨h1, h2⟩ := lookE_none hl
    rw [h1, h2]
    have hh := (hS i).2 hl
    rw [Maps.atKey_of_not_has hh] at hv
    obtain ⟨e, rfl, he⟩ := RE_inv hv
    have : e = zE := ev_inj (Value.agg.inj (DataW.held.inj (Prod.mk.inj he).1)).symm
    rw [this, hh]
  · obtain ⟨h1, h2⟩ := lookE_some hl
    obtain ⟨h3, h4⟩ := (hS i).1 x hl
    rw [h1, h2]
    rw [h4] at hv
    obtain ⟨e, rfl, he⟩ := RE_inv hv
    have : e = x.e := ev_inj (Value.agg.inj (DataW.held.inj (Prod.mk.inj he).1)).symm
    rw [this, h3]
set_option maxHeartbeats 2000000 in
set_option maxRecDepth 100000 in
theorem cGet {w : World} {x b b2 n : Nat} {nd c : Int} {xs : List En} {ids : List Int} (h : Ix w x b b2 n nd c xs ids) {i : Int} (hw : (Lit.int .i64 i).wf = true) :
    Calls Tryz.prog 21 #[ptr x, .int .i64 i] w fun e w' => e = .returned (.tuple #[.agg (lookE xs i).arr, .bool (hasE xs i)]) ∧ Below w.heap.size w w' := by
  have hM := fun W (hb : Below w.heap.size w W) => cMade (h.on hb)
  have hL := fun W (hb : Below w.heap.size w W) => run_look (h.on hb).mp hw
  have hC := fun W (hb : Below w.heap.size w W) => (h.on hb).cells
  generalize lookE xs i = e at hL ⊢
  generalize hasE xs i = d at hL ⊢
  clear h hw
  have HC := hid hC
  have HL := hid hL
  have HZ : Hid (Ob (w.alloc zeroEc) w.heap.size 67 zE) := hid (heap_alloc_new w _)
  have HW : Hid (Below w.heap.size w (w.alloc zeroEc)) := hid ((Below.refl _ w).alloc (Nat.le_refl _) _)
  clear hC hL
  go_enter Tryz.func21, Tryz.ntmps21
  go_wp2_with fail
  generalize w.alloc zeroEc = W1 at HZ HW ⊢
  have HQ := hid (show w.heap.size ≤ W1.heap.size from HW.out.size)
  have hL1 := HL.out W1 HW.out
  obtain ⟨k0, k1, k2, k3, f1⟩ := HC.out W1 HW.out
  go_wp2_with (first
    | (go_at_call 48; refine (hM W1 HW.out).mono ?_; rintro y w' ⟨rfl, rfl⟩)
    | ((with_reducible refine storeC (x := ?sx1) (y := ?sy1) (b := W1.heap.size) (T := 67) e ?sg1 ?so1 ?sxx1 ?syy1 ?sc1 ?_); (case sg1 => rfl); (case so1 => rfl); (case sxx1 => rfl); (case syy1 => rfl); (case sc1 => exact zeroRoom W1); intro W2 hO2 hU2
       have hb2 : Below W1.heap.size W1 W2 := ((Below.refl _ W1).alloc (Nat.le_refl _) _).trans (hU2.below _ (Nat.le_refl _))
       have HO2 := hid hO2
       have HZ2 : Hid (Ob W2 w.heap.size 67 zE) := hid (heapB HZ.out hb2 (Array.getElem?_eq_some_iff.1 HZ.out).1)
       have HW2 := hid (HW.out.trans (hb2.mono HQ.out))
       clear hO2 hU2 hb2)
    | ((with_reducible refine loadC (x := ?cx2) (b := W1.heap.size) (T := 67) e ?cg2 ?co2 ?cxx2 ?cc2 ?_); (case cg2 => rfl); (case co2 => rfl); (case cxx2 => rfl); (case cc2 => exact HO2.out))
    | ((with_reducible refine storeC (x := ?sx3) (y := ?sy3) (b := w.heap.size) (T := 67) e ?sg3 ?so3 ?sxx3 ?syy3 ?sc3 ?_); (case sg3 => rfl); (case so3 => rfl); (case sxx3 => rfl); (case syy3 => rfl); (case sc3 => exact HZ2.out.room); intro W3 hO3 hU3
       have HO3 := hid hO3
       have HW3 := hid (HW2.out.trans (hU3.below _ (Nat.le_refl _)))
       clear hO3 hU3)
    | fail)
  refine bodyPost_ret (ret_cell_tmp rfl rfl rfl HO3.out.range Tryz.underlying67 rfl (infoEc e)) rfl ⟨rfl, HW3.out⟩
section
variable {P : Program} {md : Region.Mode} {S : World → Prop} {ops : Array Oper} {i : Nat} {o : Oper} {rs : List Nat} {fuel : Nat} {listed listed' : Array Bool} {a a' : Act} {w : World} {Q : Exit → Act → World → Prop}
theorem rh_takeS {v : Value} (hi : ops[i]? = some o) (hs : Region.noSelect ops = true) (hf : Region.free md ops listed i = true) (hr : (Region.ready md ops listed).contains i = true)
    (hQ : ∀ c a w, Q (.panic c) (a.put o.dst v) w → Q (.panic c) a w) (hl : listed.setIfInBounds i true = listed') (hw : Region.wanted o (yielded ops a.tmps) = true) (hv : ∀ w, S w → (execOp a.eval o).run P w = .ok (.value v) w) (ha : a.put o.dst v = a') (hS : S w) (h : wpAnyH P md ops Q S fuel listed' a' w) : wpAnyH P md ops Q S (fuel + 1) listed a w := by
  subst hl ha
  exact wpAnyH_take hi hs hf hr hQ (.inl ⟨hw, hv⟩) hS h
end
set_option maxHeartbeats 4000000 in
set_option maxRecDepth 100000 in
theorem cKeep {w : World} {x b b2 n : Nat} {nd c : Int} {xs : List En} {ids : List Int} {y : En} (h : Ix w x b b2 n nd c xs ids) (hn : n < maxLen) (hw : (Lit.int .i64 y.id).wf = true) :
    Calls Tryz.prog 71 #[ptr x, .agg y.e.arr] w fun r w' => r = .returned (.tuple #[]) ∧ Ix w' x b b2 (n + 1) nd c (xs ++ [y]) (ids ++ [y.id]) ∧ Tch (TI x b b2) w w' := by
  have HX : Hid ((w.alloc (.cells y.e.arr 67)).heap[w.heap.size]? = some (.cells y.e.arr 67)) := hid (heap_alloc_new w _)
  have HW : Hid (Below w.heap.size w (w.alloc (.cells y.e.arr 67))) := hid ((Below.refl _ w).alloc (Nat.le_refl _) _)
  have HJ : Hid (Ix (w.alloc (.cells y.e.arr 67)) x b b2 n nd c xs ids) := hid (h.on HW.out)
  have HL : Hid (x < w.heap.size ∧ b < w.heap.size ∧ b2 < w.heap.size) := hid h.lt
  have HE := hid (And.intro h.xb h.ne)
  clear h
  go_enter Tryz.func71, Tryz.ntmps71
  go_wp2_with fail
  obtain ⟨W0, hW0⟩ : ∃ W0, W0 = w.alloc (.cells y.e.arr 67) := ⟨_, rfl⟩
  rw [← hW0] at HX HW HJ ⊢
  clear hW0
  refine wp_region_still_tail 8 (by kernel_rfl) (by kernel_rfl) ?_
  obtain ⟨W1, hW1⟩ : ∃ W1 : World, W1 = { W0 with drawn := W0.drawn + 1 } := ⟨_, rfl⟩
  rw [← hW1]
  have HB1 : Hid (Below W0.heap.size W0 W1) := hid (by rw [hW1]; exact belowDrew (Below.refl _ W0))
  clear hW1
  replace HX : Hid (Ob W1 w.heap.size 67 y.e) := hid (heapB HX.out HB1.out (Array.getElem?_eq_some_iff.1 HX.out).1)
  replace HJ := hid (HJ.out.on HB1.out)
  replace HW := hid (HW.out.trans (HB1.out.mono HW.out.size))
  obtain ⟨k0, k1, k2, k3, f1⟩ := HJ.out.cells
  have k4 : W1.cell? ⟨w.heap.size, 0, none⟩ = some (.int .i64 y.e.c.i) := (cellAt' HX.out 0).trans rfl
  simp only [List.take_succ_cons, List.take_zero, List.drop_succ_cons, List.drop_zero]
  still_step
  still_step
  still_step
  still_step
  still_step
  still_step
  still_step
  refine stillC y.e rfl rfl rfl HX.out ?_
  refine wpStill_nil ?_
  obtain ⟨D, hD, hS⟩ := HJ.out.mp
  refine wpList_mapUpdate_own _ rfl _ _ _ 83 rfl 3 67 (Maps.int_keyed Tryz.underlying3) Tryz.underlying83 RE b n D rfl hD hn _ _ (key y.id) rfl rfl (Maps.keyOf_int_mk Tryz.underlying3 hw) _ [] (RE_mk y.e) ?_
  intro W2 hD2 hg
  have hT : Tch (fun k => k = b) W1 W2 := Tch.ofGrown hg fun k e => (Option.some.inj e).symm
  have HJ2 : Hid (Ix W2 x b b2 (n + 1) nd c (xs ++ [y]) ids) := hid ⟨hT.ob HJ.out.ob HE.out.1.1, ⟨_, hD2, hS.put (own_isMap hD) y⟩, (HJ.out.cg.keptT hT (fun e => HE.out.2 e.symm)).mono (by omega), HE.out.2⟩
  have HC2 : Hid (Cg W2 b2 n ids) := hid (HJ.out.cg.keptT hT (fun e => HE.out.2 e.symm))
  have HX2 : Hid (Ob W2 w.heap.size 67 y.e) := hid (hT.ob HX.out (by have := HL.out; omega))
  have HT2 : Hid (Tch (TI x b b2) w W2) := hid ((Tch.ofBelow HW.out).trans (hT.mono fun k e => .inr (.inl e)))
  clear hD hS hD2 hg hT HJ HW HX HB1 k0 k1 k2 k3 k4 f1
  go_wp2_with fail
  refine wp_region_still_tail 8 (by kernel_rfl) (by kernel_rfl) ?_
  obtain ⟨W3, hW3⟩ : ∃ W3 : World, W3 = { W2 with drawn := W2.drawn + 1 } := ⟨_, rfl⟩
  rw [← hW3]
  have HB3 : Hid (Below W2.heap.size W2 W3) := hid (by rw [hW3]; exact belowDrew (Below.refl _ W2))
  clear hW3
  replace HX : Hid (Ob W3 w.heap.size 67 y.e) := hid (heapB HX2.out HB3.out (Array.getElem?_eq_some_iff.1 HX2.out).1)
  replace HJ := hid (HJ2.out.on HB3.out)
  have HC := hid (HC2.out.on HB3.out)
  replace HT := hid (HT2.out.trans (Tch.ofBelow (S := TI x b b2) HB3.out))
  clear HX2 HJ2 HT2 HB3
  obtain ⟨k0, k1, k2, k3, f1⟩ := HJ.out.cells
  have k4 : W3.cell? ⟨w.heap.size, 0, none⟩ = some (.int .i64 y.e.c.i) := (cellAt' HX.out 0).trans rfl
  simp only [List.take_succ_cons, List.take_zero, List.drop_succ_cons, List.drop_zero]
  still_step
  still_step
  still_step
  still_step
  still_step
  still_step
  still_step
  still_step
  refine wpStill_nil ?_
  obtain ⟨D, hD, hS⟩ := HC.out
  refine wpList_mapUpdate_own _ rfl _ _ _ 84 rfl 3 147 (Maps.int_keyed Tryz.underlying3) Tryz.underlying84 unitElem b2 n D rfl hD hn _ _ (key y.id) rfl rfl (Maps.keyOf_int_mk Tryz.underlying3 hw) _ [] unitElem_mk ?_
  intro W4 hD4 hg4
  have hT4 : Tch (fun k => k = b2) W3 W4 := Tch.ofGrown hg4 fun k e => (Option.some.inj e).symm
  have HJ4 : Hid (Ix W4 x b b2 (n + 1) nd c (xs ++ [y]) (ids ++ [y.id])) := hid ⟨hT4.ob HJ.out.ob HE.out.1.2, HJ.out.mp.keptT hT4 HE.out.2, ⟨_, hD4, has_put (own_isMap hD) hS y.id _⟩, HE.out.2⟩
  have HT4 : Hid (Tch (TI x b b2) w W4) := hid (HT.out.trans (hT4.mono fun k e => .inr (.inr e)))
  clear hD hS hD4 hg4 hT4 HJ HX HT k0 k1 k2 k3 k4 f1
  go_wp2_with fail
  go_end0
  exact ⟨rfl, HJ4.out, HT4.out⟩
end Go.Proofs.YtlehcaacfgocaaaGreat
namespace Go.Proofs.YtlehcaacfgocaaaGreat
set_option linter.unusedVariables false
open Go.RowKit
open Go.Lib (hid)
def seeE (c : Int) (e : Ev) : Int := seeI (seeI (seeI (seeI c e.hi) e.ft) e.xt) e.vt
set_option maxHeartbeats 4000000 in
set_option maxRecDepth 100000 in
theorem cPut {w : World} {x b b2 n : Nat} {nd c : Int} {xs : List En} {ids : List Int} {y : En} (h : Ix w x b b2 n nd c xs ids) (hn : n < maxLen) (hw : (Lit.int .i64 y.id).wf = true) (hy : y.at w) (hs : y.short 1024) {r : Int}
    (hr : r = if y.right = false then 1 else if hasE xs y.id = true ∧ ¬ (lookE xs y.id).c = y.e.c then 6 else 0) :
    Calls Tryz.prog 114 #[ptr x, .agg y.e.arr] w fun e w' => e = .returned (.int .i64 r) ∧ (if r = 0 then Ix w' x b b2 (n + 1) nd (seeE c y.e) (xs ++ [y]) (ids ++ [y.id]) else Ix w' x b b2 n nd c xs ids) ∧ Tch (TI x b b2) w w' := by
  have HX : Hid ((w.alloc (.cells y.e.arr 67)).heap[w.heap.size]? = some (.cells y.e.arr 67)) := hid (heap_alloc_new w _)
  have HW : Hid (Below w.heap.size w (w.alloc (.cells y.e.arr 67))) := hid ((Below.refl _ w).alloc (Nat.le_refl _) _)
  have HJ : Hid (Ix (w.alloc (.cells y.e.arr 67)) x b b2 n nd c xs ids) := hid (h.on HW.out)
  have HL : Hid (x < w.heap.size ∧ b < w.heap.size ∧ b2 < w.heap.size) := hid h.lt
  have HY := hid (hy.on HW.out)
  have HR := hid hr
  clear h hy hr
  go_enter Tryz.func114, Tryz.ntmps114
  go_wp2_with fail
  obtain ⟨W0, hW0⟩ : ∃ W0, W0 = w.alloc (.cells y.e.arr 67) := ⟨_, rfl⟩
  rw [← hW0] at HX HW HJ HY ⊢
  clear hW0
  have hM := cMade HJ.out
  have hRi := cRightE HY.out.1 HY.out.2.1 HY.out.2.2 hs.1 hs.2.1 hs.2.2
  obtain ⟨rt, hrt⟩ : ∃ rt, rt = y.right := ⟨_, rfl⟩
  rw [show rightE y.e y.f y.a y.v = rt from hrt.symm] at hRi
  rw [← hrt] at HR
  clear hrt
  rcases rt with _ | _
  · obtain rfl : r = 1 := by have := HR.out; rw [if_pos rfl] at this; exact this
    clear HR
    go_wp2_with (first
      | (go_at_call 48; refine hM.mono ?_; rintro y w' ⟨rfl, rfl⟩)
      | ((with_reducible refine loadGC (x := ?cx2) (b := w.heap.size) (T := 67) y.e ?cg2 ?co2 ?cxx2 ?cc2 ?_); (case cg2 => rfl); (case co2 => rfl); (case cxx2 => rfl); (case cc2 => exact HX.out))
      | (go_at_call 58; refine hRi.mono ?_; rintro q w1 ⟨rfl, hB1⟩; have HB1 := hid hB1; clear hB1)
      | fail)
    go_ret
    exact ⟨rfl, HJ.out.on HB1.out, Tch.ofBelow (HW.out.trans (HB1.out.mono HW.out.size))⟩
  · go_wp2_with (first
      | (go_at_call 48; refine hM.mono ?_; rintro y w' ⟨rfl, rfl⟩)
      | ((with_reducible refine loadGC (x := ?cx2) (b := w.heap.size) (T := 67) y.e ?cg2 ?co2 ?cxx2 ?cc2 ?_); (case cg2 => rfl); (case co2 => rfl); (case cxx2 => rfl); (case cc2 => exact HX.out))
      | (go_at_call 58; refine hRi.mono ?_; rintro q w1 ⟨rfl, hB1⟩; have HB1 := hid hB1; clear hB1)
      | fail)
    obtain ⟨e1, he1⟩ : ∃ e, e = lookE xs y.id := ⟨_, rfl⟩
    obtain ⟨d1, hd1⟩ : ∃ d, d = hasE xs y.id := ⟨_, rfl⟩
    have HJ1 := hid (HJ.out.on HB1.out)
    have HF : Hid (∀ W, Below w1.heap.size w1 W → W.cell? ⟨x, 2, none⟩ = some (Value.map (some b)) ∧ W.cell? ⟨w.heap.size, 0, none⟩ = some (.int .i64 y.e.c.i) ∧ Sem.run Tryz.prog (Instr.lookup 83 (.map (some b)) (.int .i64 y.e.c.i) true) W = .ok (.tuple #[.agg e1.arr, .bool d1]) W) := hid fun W hW => ⟨(HJ1.out.on hW).cells.2.2.1, (cellAt' (heapB HX.out (HB1.out.trans (hW.mono HB1.out.size)) (Array.getElem?_eq_some_iff.1 HX.out).1) 0).trans rfl, by rw [he1, hd1]; exact run_look (HJ1.out.on hW).mp hw⟩
    rw [← he1, ← hd1] at HR
    have HK := hid (heapB HX.out HB1.out (Array.getElem?_eq_some_iff.1 HX.out).1)
    have HWs := hid (show w.heap.size < w1.heap.size from (Array.getElem?_eq_some_iff.1 HK.out).1)
    have HT1 := hid (HW.out.trans (HB1.out.mono HW.out.size))
    clear he1 hd1 hM hRi HX HJ
    refine rh_start (S := fun W => Below w1.heap.size w1 W) (n := 14) (listed := #[false, false, false, false, false, false, false, false, false, false, false, false, false, false]) (by kernel_rfl) rfl rfl ?_
    have HS0 : Hid (Below w1.heap.size w1 w1.drew) := hid (belowDrew (Below.refl _ w1))
    generalize World.drew w1 = wd at HS0 ⊢
    refine rh_takeS (i := 0) (o := ?o1) (v := ?v1) (listed' := ?l1) (a' := ?a1) ?hi1 (by kernel_rfl) (by kernel_rfl) (by kernel_rfl) ?hq1 ?hl1 ?hw1 ?hv1 ?ha1 HS0.out ?hh1
    case hi1 => (simp only [List.getElem?_toArray, List.getElem?_cons_zero]; try rfl)
    case hq1 => exact fun _ _ _ h => h
    case hl1 => (simp only [List.setIfInBounds_toArray, List.set_cons_zero]; try rfl)
    case hw1 => rfl
    case hv1 =>
      intro W hW
      obtain ⟨k2, k4, hl⟩ := HF.out W hW
      go_simp
      try with_reducible rfl
    case ha1 => (simp only [Act.put, List.setIfInBounds_toArray, List.set_cons_succ, List.set_cons_zero]; try rfl)
    refine rh_takeS (i := 1) (o := ?o2) (v := ?v2) (listed' := ?l2) (a' := ?a2) ?hi2 (by kernel_rfl) (by kernel_rfl) (by kernel_rfl) ?hq2 ?hl2 ?hw2 ?hv2 ?ha2 HS0.out ?hh2
    case hi2 => (simp only [List.getElem?_toArray, List.getElem?_cons_succ, List.getElem?_cons_zero]; try rfl)
    case hq2 => exact fun _ _ _ h => h
    case hl2 => (simp only [List.setIfInBounds_toArray, List.set_cons_succ, List.set_cons_zero]; try rfl)
    case hw2 => rfl
    case hv2 =>
      intro W hW
      obtain ⟨k2, k4, hl⟩ := HF.out W hW
      go_simp
      try with_reducible rfl
    case ha2 => (simp only [Act.put, List.setIfInBounds_toArray, List.set_cons_succ, List.set_cons_zero]; try rfl)
    refine rh_takeS (i := 2) (o := ?o3) (v := ?v3) (listed' := ?l3) (a' := ?a3) ?hi3 (by kernel_rfl) (by kernel_rfl) (by kernel_rfl) ?hq3 ?hl3 ?hw3 ?hv3 ?ha3 HS0.out ?hh3
    case hi3 => (simp only [List.getElem?_toArray, List.getElem?_cons_succ, List.getElem?_cons_zero]; try rfl)
    case hq3 => exact fun _ _ _ h => h
    case hl3 => (simp only [List.setIfInBounds_toArray, List.set_cons_succ, List.set_cons_zero]; try rfl)
    case hw3 => rfl
    case hv3 =>
      intro W hW
      obtain ⟨k2, k4, hl⟩ := HF.out W hW
      go_simp
      try with_reducible rfl
    case ha3 => (simp only [Act.put, List.setIfInBounds_toArray, List.set_cons_succ, List.set_cons_zero]; try rfl)
    refine rh_takeS (i := 3) (o := ?o4) (v := ?v4) (listed' := ?l4) (a' := ?a4) ?hi4 (by kernel_rfl) (by kernel_rfl) (by kernel_rfl) ?hq4 ?hl4 ?hw4 ?hv4 ?ha4 HS0.out ?hh4
    case hi4 => (simp only [List.getElem?_toArray, List.getElem?_cons_succ, List.getElem?_cons_zero]; try rfl)
    case hq4 => exact fun _ _ _ h => h
    case hl4 => (simp only [List.setIfInBounds_toArray, List.set_cons_succ, List.set_cons_zero]; try rfl)
    case hw4 => rfl
    case hv4 =>
      intro W hW
      obtain ⟨k2, k4, hl⟩ := HF.out W hW
      go_simp
      try with_reducible rfl
    case ha4 => (simp only [Act.put, List.setIfInBounds_toArray, List.set_cons_succ, List.set_cons_zero]; try rfl)
    refine rh_takeS (i := 4) (o := ?o5) (v := ?v5) (listed' := ?l5) (a' := ?a5) ?hi5 (by kernel_rfl) (by kernel_rfl) (by kernel_rfl) ?hq5 ?hl5 ?hw5 ?hv5 ?ha5 HS0.out ?hh5
    case hi5 => (simp only [List.getElem?_toArray, List.getElem?_cons_succ, List.getElem?_cons_zero]; try rfl)
    case hq5 => exact fun _ _ _ h => h
    case hl5 => (simp only [List.setIfInBounds_toArray, List.set_cons_succ, List.set_cons_zero]; try rfl)
    case hw5 => rfl
    case hv5 =>
      intro W hW
      obtain ⟨k2, k4, hl⟩ := HF.out W hW
      go_simp
      try with_reducible rfl
    case ha5 => (simp only [Act.put, List.setIfInBounds_toArray, List.set_cons_succ, List.set_cons_zero]; try rfl)
    refine rh_takeS (i := 5) (o := ?o6) (v := ?v6) (listed' := ?l6) (a' := ?a6) ?hi6 (by kernel_rfl) (by kernel_rfl) (by kernel_rfl) ?hq6 ?hl6 ?hw6 ?hv6 ?ha6 HS0.out ?hh6
    case hi6 => (simp only [List.getElem?_toArray, List.getElem?_cons_succ, List.getElem?_cons_zero]; try rfl)
    case hq6 => exact fun _ _ _ h => h
    case hl6 => (simp only [List.setIfInBounds_toArray, List.set_cons_succ, List.set_cons_zero]; try rfl)
    case hw6 => rfl
    case hv6 =>
      intro W hW
      obtain ⟨k2, k4, hl⟩ := HF.out W hW
      go_simp
      try with_reducible rfl
    case ha6 => (simp only [Act.put, List.setIfInBounds_toArray, List.set_cons_succ, List.set_cons_zero]; try rfl)
    refine rh_takeS (i := 6) (o := ?o7) (v := ?v7) (listed' := ?l7) (a' := ?a7) ?hi7 (by kernel_rfl) (by kernel_rfl) (by kernel_rfl) ?hq7 ?hl7 ?hw7 ?hv7 ?ha7 HS0.out ?hh7
    case hi7 => (simp only [List.getElem?_toArray, List.getElem?_cons_succ, List.getElem?_cons_zero]; try rfl)
    case hq7 => exact fun _ _ _ h => h
    case hl7 => (simp only [List.setIfInBounds_toArray, List.set_cons_succ, List.set_cons_zero]; try rfl)
    case hw7 => rfl
    case hv7 =>
      intro W hW
      obtain ⟨k2, k4, hl⟩ := HF.out W hW
      go_simp
      try with_reducible rfl
    case ha7 => (simp only [Act.put, List.setIfInBounds_toArray, List.set_cons_succ, List.set_cons_zero]; try rfl)
    refine rh_takeS (i := 7) (o := ?o8) (v := ?v8) (listed' := ?l8) (a' := ?a8) ?hi8 (by kernel_rfl) (by kernel_rfl) (by kernel_rfl) ?hq8 ?hl8 ?hw8 ?hv8 ?ha8 HS0.out ?hh8
    case hi8 => (simp only [List.getElem?_toArray, List.getElem?_cons_succ, List.getElem?_cons_zero]; try rfl)
    case hq8 => exact fun _ _ _ h => h
    case hl8 => (simp only [List.setIfInBounds_toArray, List.set_cons_succ, List.set_cons_zero]; try rfl)
    case hw8 => rfl
    case hv8 =>
      intro W hW
      obtain ⟨k2, k4, hl⟩ := HF.out W hW
      go_simp
      try with_reducible rfl
    case ha8 => (simp only [Act.put, List.setIfInBounds_toArray, List.set_cons_succ, List.set_cons_zero]; try rfl)
    refine rh_takeS (i := 8) (o := ?o9) (v := ?v9) (listed' := ?l9) (a' := ?a9) ?hi9 (by kernel_rfl) (by kernel_rfl) (by kernel_rfl) ?hq9 ?hl9 ?hw9 ?hv9 ?ha9 HS0.out ?hh9
    case hi9 => (simp only [List.getElem?_toArray, List.getElem?_cons_succ, List.getElem?_cons_zero]; try rfl)
    case hq9 => exact fun _ _ _ h => h
    case hl9 => (simp only [List.setIfInBounds_toArray, List.set_cons_succ, List.set_cons_zero]; try rfl)
    case hw9 => rfl
    case hv9 =>
      intro W hW
      obtain ⟨k2, k4, hl⟩ := HF.out W hW
      go_simp
      try with_reducible rfl
    case ha9 => (simp only [Act.put, List.setIfInBounds_toArray, List.set_cons_succ, List.set_cons_zero]; try rfl)
    refine rh_takeS (i := 9) (o := ?o10) (v := ?v10) (listed' := ?l10) (a' := ?a10) ?hi10 (by kernel_rfl) (by kernel_rfl) (by kernel_rfl) ?hq10 ?hl10 ?hw10 ?hv10 ?ha10 HS0.out ?hh10
    case hi10 => (simp only [List.getElem?_toArray, List.getElem?_cons_succ, List.getElem?_cons_zero]; try rfl)
    case hq10 => exact fun _ _ _ h => h
    case hl10 => (simp only [List.setIfInBounds_toArray, List.set_cons_succ, List.set_cons_zero]; try rfl)
    case hw10 => rfl
    case hv10 =>
      intro W hW
      obtain ⟨k2, k4, hl⟩ := HF.out W hW
      go_simp
      try with_reducible rfl
    case ha10 => (simp only [Act.put, List.setIfInBounds_toArray, List.set_cons_succ, List.set_cons_zero]; try rfl)
    refine rh_takeS (i := 10) (o := ?o11) (v := ?v11) (listed' := ?l11) (a' := ?a11) ?hi11 (by kernel_rfl) (by kernel_rfl) (by kernel_rfl) ?hq11 ?hl11 ?hw11 ?hv11 ?ha11 HS0.out ?hh11
    case hi11 => (simp only [List.getElem?_toArray, List.getElem?_cons_succ, List.getElem?_cons_zero]; try rfl)
    case hq11 => exact fun _ _ _ h => h
    case hl11 => (simp only [List.setIfInBounds_toArray, List.set_cons_succ, List.set_cons_zero]; try rfl)
    case hw11 => rfl
    case hv11 =>
      intro W hW
      obtain ⟨k2, k4, hl⟩ := HF.out W hW
      go_simp
      try with_reducible rfl
    case ha11 => (simp only [Act.put, List.setIfInBounds_toArray, List.set_cons_succ, List.set_cons_zero]; try rfl)
    refine wpAnyH_ready (rs := [11]) (by kernel_rfl) (by simp) ?_
    refine rh_cons (i := 11) (o := ?o12) (listed' := ?l12) ?hi12 ?hl12 ?hg12 ?hh12 ?hs12
    case hi12 => (simp only [List.getElem?_toArray, List.getElem?_cons_succ, List.getElem?_cons_zero]; try rfl)
    case hl12 => (simp only [List.setIfInBounds_toArray, List.set_cons_succ, List.set_cons_zero]; try rfl)
    case hg12 => rfl
    case hs12 => exact AllReadyH.nil
    intro K hK
    go_simp
    have HS1 : Hid (Below w1.heap.size w1 (wd.alloc zeroEc)) := hid (HS0.out.alloc HS0.out.size _)
    refine hK.out _ _ HS1.out ?_
    clear hK K
    refine wpAnyH_ready (rs := [12]) (by kernel_rfl) (by simp) ?_
    refine rh_storeC (i := 12) (o := ?o13) (listed' := ?l13) (x := ?x13) (y := ?y13) (b := wd.heap.size) (T := 67) e1 ?hi13 ?hl13 ?hg13 ?ho13 ?hx13 ?hy13 ?hd13 ?hc13 ?hh13 ?hs13
    case hi13 => (simp only [List.getElem?_toArray, List.getElem?_cons_succ, List.getElem?_cons_zero]; try rfl)
    case hl13 => (simp only [List.setIfInBounds_toArray, List.set_cons_succ, List.set_cons_zero]; try rfl)
    case hg13 => rfl
    case ho13 => rfl
    case hx13 => rfl
    case hy13 => rfl
    case hd13 => rfl
    case hc13 => exact zeroRoom wd
    case hs13 => exact AllReadyH.nil
    intro W2 hO2 hU2
    have HO2 := hid hO2
    have HS2 := hid (HS1.out.trans (hU2.below _ (HS0.out.size)))
    refine ⟨HS2.out, ?_⟩
    clear hO2 hU2
    refine rh_takeS (i := 13) (o := ?o14) (v := ?v14) (listed' := ?l14) (a' := ?a14) ?hi14 (by kernel_rfl) (by kernel_rfl) (by kernel_rfl) ?hq14 ?hl14 ?hw14 ?hv14 ?ha14 HS2.out ?hh14
    case hi14 => (simp only [List.getElem?_toArray, List.getElem?_cons_succ, List.getElem?_cons_zero]; try rfl)
    case hq14 => exact fun _ _ _ h => h
    case hl14 => (simp only [List.setIfInBounds_toArray, List.set_cons_succ, List.set_cons_zero]; try rfl)
    case hw14 => rfl
    case hv14 =>
      intro W hW
      obtain ⟨k2, k4, hl⟩ := HF.out W hW
      go_simp
      try with_reducible rfl
    case ha14 => (simp only [Act.put, List.setIfInBounds_toArray, List.set_cons_succ, List.set_cons_zero]; try rfl)
    refine wpAnyH_done (by kernel_rfl) ?_ _
    have HJ2 := hid (HJ1.out.on HS2.out)
    have HT2 := hid (HT1.out.trans (HS2.out.mono HT1.out.size))
    have HX2 : Hid (Ob W2 w.heap.size 67 y.e) := hid (heapB HK.out HS2.out (Array.getElem?_eq_some_iff.1 HK.out).1)
    have HNE : Hid (¬ TI x b b2 w.heap.size) := hid (by rintro (e | e | e) <;> (have := HL.out; omega))
    clear HS0 HS1 HF HJ1 HK HWs HT1 HW HB1 HY
    rcases d1 with _ | _
    · obtain rfl : r = 0 := by have := HR.out; simpa using this
      clear HR
      go_wp2_with (first
        | ((with_reducible refine loadC (x := ?cx5) (b := w.heap.size) (T := 67) y.e ?cg5 ?co5 ?cxx5 ?cc5 ?_); (case cg5 => rfl); (case co5 => rfl); (case cxx5 => rfl); (case cc5 => exact HX2.out))
        | fail)
      go_at_call 71
      refine (cKeep HJ2.out hn hw).mono ?_
      rintro q w3 ⟨rfl, hJ3, hT3⟩
      have HJ3 := hid hJ3
      have HX3 : Hid (Ob w3 w.heap.size 67 y.e) := hid (hT3.ob HX2.out HNE.out)
      have HZ3 := hid ((Tch.ofBelow (S := TI x b b2) HT2.out).trans hT3)
      clear hJ3 hT3
      have k9 := HX3.out.cell (j := 9) (v := .int .i64 y.e.hi) rfl
      go_wp2_with fail
      go_at_call 32
      refine (cSee HJ3.out y.e.hi).mono ?_
      rintro q w4 ⟨rfl, hJ4, hT4⟩
      have HJ4 := hid hJ4
      have HX4 : Hid (Ob w4 w.heap.size 67 y.e) := hid (hT4.ob HX3.out (fun e => HNE.out (.inl e)))
      have HZ4 := hid (HZ3.out.trans (hT4.mono fun k e => .inl e))
      clear hJ4 hT4 HJ3 HX3 HZ3 k9
      have k10 := HX4.out.cell (j := 10) (v := .int .i64 y.e.ft) rfl
      go_wp2_with fail
      go_at_call 32
      refine (cSee HJ4.out y.e.ft).mono ?_
      rintro q w5 ⟨rfl, hJ5, hT5⟩
      have HJ5 := hid hJ5
      have HX5 : Hid (Ob w5 w.heap.size 67 y.e) := hid (hT5.ob HX4.out (fun e => HNE.out (.inl e)))
      have HZ5 := hid (HZ4.out.trans (hT5.mono fun k e => .inl e))
      clear hJ5 hT5 HJ4 HX4 HZ4 k10
      have k13 := HX5.out.cell (j := 13) (v := .int .i64 y.e.xt) rfl
      go_wp2_with fail
      go_at_call 32
      refine (cSee HJ5.out y.e.xt).mono ?_
      rintro q w6 ⟨rfl, hJ6, hT6⟩
      have HJ6 := hid hJ6
      have HX6 : Hid (Ob w6 w.heap.size 67 y.e) := hid (hT6.ob HX5.out (fun e => HNE.out (.inl e)))
      have HZ6 := hid (HZ5.out.trans (hT6.mono fun k e => .inl e))
      clear hJ6 hT6 HJ5 HX5 HZ5 k13
      have k17 := HX6.out.cell (j := 17) (v := .int .i64 y.e.vt) rfl
      go_wp2_with fail
      go_at_call 32
      refine (cSee HJ6.out y.e.vt).mono ?_
      rintro q w7 ⟨rfl, hJ7, hT7⟩
      have HJ7 := hid hJ7
      have HX7 : Hid (Ob w7 w.heap.size 67 y.e) := hid (hT7.ob HX6.out (fun e => HNE.out (.inl e)))
      have HZ7 := hid (HZ6.out.trans (hT7.mono fun k e => .inl e))
      clear hJ7 hT7 HJ6 HX6 HZ6 k17
      go_wp2_with fail
      go_ret
      exact ⟨rfl, HJ7.out, HZ7.out⟩
    · rcases hsame : e1.c.same y.e.c with _ | _
      · obtain rfl : r = 6 := by have := HR.out; rw [if_neg (by simp), if_pos ⟨rfl, fun e => by rw [C7.same_iff.2 e] at hsame; cases hsame⟩] at this; exact this
        clear HR
        have u0 := HO2.out.cell (j := 0) (v := .int .i64 e1.c.i) rfl
        have u1 := HO2.out.cell (j := 1) (v := .int .i64 e1.c.k) rfl
        have u2 := HO2.out.cell (j := 2) (v := .int .i64 e1.c.s) rfl
        have u3 := HO2.out.cell (j := 3) (v := .int .i64 e1.c.t) rfl
        have u4 := HO2.out.cell (j := 4) (v := .int .i64 e1.c.d) rfl
        have u5 := HO2.out.cell (j := 5) (v := .int .i64 e1.c.p) rfl
        have u6 := HO2.out.cell (j := 6) (v := .int .i64 e1.c.q) rfl
        have v0 := HX2.out.cell (j := 0) (v := .int .i64 y.e.c.i) rfl
        have v1 := HX2.out.cell (j := 1) (v := .int .i64 y.e.c.k) rfl
        have v2 := HX2.out.cell (j := 2) (v := .int .i64 y.e.c.s) rfl
        have v3 := HX2.out.cell (j := 3) (v := .int .i64 y.e.c.t) rfl
        have v4 := HX2.out.cell (j := 4) (v := .int .i64 y.e.c.d) rfl
        have v5 := HX2.out.cell (j := 5) (v := .int .i64 y.e.c.p) rfl
        have v6 := HX2.out.cell (j := 6) (v := .int .i64 y.e.c.q) rfl
        have q1 := fun W => neqC hsame W
        have q2 := fun W => guardC .neq (.tmp 29) (.tmp 31) e1.c y.e.c W
        clear hsame
        go_wp2_with fail
        go_ret
        exact ⟨rfl, HJ2.out, Tch.ofBelow HT2.out⟩
      · obtain rfl : r = 0 := by have := HR.out; rw [if_neg (by simp), if_neg (fun h => h.2 (C7.same_iff.1 hsame))] at this; exact this
        clear HR
        have u0 := HO2.out.cell (j := 0) (v := .int .i64 e1.c.i) rfl
        have u1 := HO2.out.cell (j := 1) (v := .int .i64 e1.c.k) rfl
        have u2 := HO2.out.cell (j := 2) (v := .int .i64 e1.c.s) rfl
        have u3 := HO2.out.cell (j := 3) (v := .int .i64 e1.c.t) rfl
        have u4 := HO2.out.cell (j := 4) (v := .int .i64 e1.c.d) rfl
        have u5 := HO2.out.cell (j := 5) (v := .int .i64 e1.c.p) rfl
        have u6 := HO2.out.cell (j := 6) (v := .int .i64 e1.c.q) rfl
        have v0 := HX2.out.cell (j := 0) (v := .int .i64 y.e.c.i) rfl
        have v1 := HX2.out.cell (j := 1) (v := .int .i64 y.e.c.k) rfl
        have v2 := HX2.out.cell (j := 2) (v := .int .i64 y.e.c.s) rfl
        have v3 := HX2.out.cell (j := 3) (v := .int .i64 y.e.c.t) rfl
        have v4 := HX2.out.cell (j := 4) (v := .int .i64 y.e.c.d) rfl
        have v5 := HX2.out.cell (j := 5) (v := .int .i64 y.e.c.p) rfl
        have v6 := HX2.out.cell (j := 6) (v := .int .i64 y.e.c.q) rfl
        have q1 := fun W => neqC hsame W
        have q2 := fun W => guardC .neq (.tmp 29) (.tmp 31) e1.c y.e.c W
        clear hsame
        go_wp2_with (first
          | ((with_reducible refine loadC (x := ?cx5) (b := w.heap.size) (T := 67) y.e ?cg5 ?co5 ?cxx5 ?cc5 ?_); (case cg5 => rfl); (case co5 => rfl); (case cxx5 => rfl); (case cc5 => exact HX2.out))
          | fail)
        go_at_call 71
        refine (cKeep HJ2.out hn hw).mono ?_
        rintro q w3 ⟨rfl, hJ3, hT3⟩
        have HJ3 := hid hJ3
        have HX3 : Hid (Ob w3 w.heap.size 67 y.e) := hid (hT3.ob HX2.out HNE.out)
        have HZ3 := hid ((Tch.ofBelow (S := TI x b b2) HT2.out).trans hT3)
        clear hJ3 hT3
        have k9 := HX3.out.cell (j := 9) (v := .int .i64 y.e.hi) rfl
        go_wp2_with fail
        go_at_call 32
        refine (cSee HJ3.out y.e.hi).mono ?_
        rintro q w4 ⟨rfl, hJ4, hT4⟩
        have HJ4 := hid hJ4
        have HX4 : Hid (Ob w4 w.heap.size 67 y.e) := hid (hT4.ob HX3.out (fun e => HNE.out (.inl e)))
        have HZ4 := hid (HZ3.out.trans (hT4.mono fun k e => .inl e))
        clear hJ4 hT4 HJ3 HX3 HZ3 k9
        have k10 := HX4.out.cell (j := 10) (v := .int .i64 y.e.ft) rfl
        go_wp2_with fail
        go_at_call 32
        refine (cSee HJ4.out y.e.ft).mono ?_
        rintro q w5 ⟨rfl, hJ5, hT5⟩
        have HJ5 := hid hJ5
        have HX5 : Hid (Ob w5 w.heap.size 67 y.e) := hid (hT5.ob HX4.out (fun e => HNE.out (.inl e)))
        have HZ5 := hid (HZ4.out.trans (hT5.mono fun k e => .inl e))
        clear hJ5 hT5 HJ4 HX4 HZ4 k10
        have k13 := HX5.out.cell (j := 13) (v := .int .i64 y.e.xt) rfl
        go_wp2_with fail
        go_at_call 32
        refine (cSee HJ5.out y.e.xt).mono ?_
        rintro q w6 ⟨rfl, hJ6, hT6⟩
        have HJ6 := hid hJ6
        have HX6 : Hid (Ob w6 w.heap.size 67 y.e) := hid (hT6.ob HX5.out (fun e => HNE.out (.inl e)))
        have HZ6 := hid (HZ5.out.trans (hT6.mono fun k e => .inl e))
        clear hJ6 hT6 HJ5 HX5 HZ5 k13
        have k17 := HX6.out.cell (j := 17) (v := .int .i64 y.e.vt) rfl
        go_wp2_with fail
        go_at_call 32
        refine (cSee HJ6.out y.e.vt).mono ?_
        rintro q w7 ⟨rfl, hJ7, hT7⟩
        have HJ7 := hid hJ7
        have HX7 : Hid (Ob w7 w.heap.size 67 y.e) := hid (hT7.ob HX6.out (fun e => HNE.out (.inl e)))
        have HZ7 := hid (HZ6.out.trans (hT7.mono fun k e => .inl e))
        clear hJ7 hT7 HJ6 HX6 HZ6 k17
        go_wp2_with fail
        go_ret
        exact ⟨rfl, HJ7.out, HZ7.out⟩
end Go.Proofs.YtlehcaacfgocaaaGreat
