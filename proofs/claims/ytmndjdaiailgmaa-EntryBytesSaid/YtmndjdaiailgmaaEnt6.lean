/- Entries by value: the document's Finish and Vote. -/
import Derived.Test.YtmndjdaiailgmaaEnt4
namespace Go.Proofs.Ytmndjdaiailgmaa
set_option linter.unusedVariables false
open Go.RowKit
open Go.Lib (hid)

theorem rangeOf {W : World} {q : Nat} {e : Ev} {T : TypeId} (h : W.heap[q]? = some (.cells e.arr T (0, 0))) : W.rangeAt q 0 e.list := fun j v hv => by
  rw [Nat.zero_add, cellAt' h, ← Ev.toList] at *
  simpa using hv
theorem thereOf {W : World} {q n : Nat} {C : Array Value} {T : TypeId} (h : W.heap[q]? = some (.cells C T (0, 0))) (hn : n ≤ C.size) : W.there q 0 n := fun j hj => by
  rw [Nat.zero_add]
  refine ⟨?_, frozenAt h j⟩
  rw [cellAt' h, Array.getElem?_eq_getElem (by omega)]; rfl
theorem box3_heap (w : World) (a b c : Obj) : (((w.alloc a).alloc b).alloc c).heap[w.heap.size]? = some a ∧ (((w.alloc a).alloc b).alloc c).heap[w.heap.size + 1]? = some b ∧ (((w.alloc a).alloc b).alloc c).heap[w.heap.size + 2]? = some c := by
  refine ⟨(Below.heap_alloc _ _ _ (by simp; omega)).trans ((Below.heap_alloc _ _ _ (by simp)).trans (heap_alloc_new w a)), (Below.heap_alloc _ _ _ (by simp)).trans ?_, ?_⟩
  · have := heap_alloc_new (w.alloc a) b; simpa using this
  · have := heap_alloc_new ((w.alloc a).alloc b) c; simpa [Nat.add_assoc] using this
theorem box3_below (w : World) (a b c : Obj) : Below w.heap.size w (((w.alloc a).alloc b).alloc c) := (((Below.refl _ w).alloc (Nat.le_refl _) _).alloc (by simp) _).alloc (by simp; omega) _

theorem loadE {ops : Array Oper} {rest : List Oper} {op : Oper} {a : Act} {w : World} {Q : Exit → Act → World → Prop} {x : Operand} {b : Nat} (e : Ev) (hgd : op.guard = none) (ho : op.op = .load 36 x)
    (hx : a.eval x = .pointer (some ⟨b, 0, none⟩)) (hc : w.rangeAt b 0 e.list) (h : wpList Try.prog ops Q rest (a.put op.dst (.agg e.arr)) w) : wpList Try.prog ops Q (op :: rest) a w :=
  wpList_load_mid hgd 36 x ho b 0 hx e.list _ hc Try.underlying36 rfl (infoE e) h
theorem storeE {ops : Array Oper} {rest : List Oper} {op : Oper} {a : Act} {w : World} {Q : Exit → Act → World → Prop} {x y : Operand} {b : Nat} (e : Ev) (hgd : op.guard = none) (ho : op.op = .store 36 x y)
    (hx : a.eval x = .pointer (some ⟨b, 0, none⟩)) (hy : a.eval y = .agg e.arr) (ht : w.there b 0 19) (h : wpList Try.prog ops Q rest (a.put op.dst undef) (w.setCells b 0 e.arr.toList)) : wpList Try.prog ops Q (op :: rest) a w :=
  wpList_store_mid hgd 36 x y ho b 0 e.arr hx hy ht (infoE' e) (Ev.one e) h

def finE (e : Ev) (t : Int) (p : Sv) (full same : Bool) : Ev × Int := if full = false then (e, 1) else if e.dn = true ∧ same = false then (e, 6) else ({ e with dn := true, vt := t, vp := p }, 0)
def votE (e : Ev) (t : Int) (p : Sv) (full same none : Bool) : Ev × Int := if full = false then (e, 1) else if same = true then (e, 0) else if none = false then (e, 6) else ({ (resE e t).1 with ft := t, fp := p }, 0)

set_option maxHeartbeats 1200000 in
set_option maxRecDepth 100000 in
theorem rFinish {e : Ev} {t : Int} {p : Sv} {v l : List C7} {w : World} (hv : Sl w e.vp.v v) (hp : Sl w p.v l) (lv : v.length ≤ 1024) (ll : l.length ≤ 1024) :
    Calls Try.prog 35 #[.agg e.arr, .agg #[.int .i64 t, p.v]] w fun x w' => x = .returned (.tuple #[.agg (finE e t p (fullB t l) (decide (e.vt = t) && sameB v l)).1.arr, .int .i64 (finE e t p (fullB t l) (decide (e.vt = t) && sameB v l)).2]) ∧ Below w.heap.size w w' := by
  obtain ⟨b1, hb1⟩ : ∃ b, b = fullB t l := ⟨_, rfl⟩
  obtain ⟨b2, hb2⟩ : ∃ b, b = (decide (e.vt = t) && sameB v l) := ⟨_, rfl⟩
  have hF := fun (W : World) (hB : Below w.heap.size w W) => rFull t (hp.on hB) ll
  have hS := fun (W : World) (hB : Below w.heap.size w W) => rSameVG e.vt t (hv.on hB) (hp.on hB) (by omega) (by omega)
  rw [← hb1] at hF
  rw [← hb2] at hS
  rw [← hb1, ← hb2]
  clear hb1 hb2 hv hp
  have HX : Hid ((((w.alloc (.cells e.arr 36)).alloc (boxV t p.v)).alloc zeroE).heap[w.heap.size]? = some (.cells e.arr 36)) := hid (box3_heap w _ _ _).1
  have HY : Hid ((((w.alloc (.cells e.arr 36)).alloc (boxV t p.v)).alloc zeroE).heap[w.heap.size + 1]? = some (boxV t p.v)) := hid (box3_heap w _ _ _).2.1
  have HZ : Hid ((((w.alloc (.cells e.arr 36)).alloc (boxV t p.v)).alloc zeroE).heap[w.heap.size + 2]? = some zeroE) := hid (box3_heap w _ _ _).2.2
  have HW : Hid (Below w.heap.size w (((w.alloc (.cells e.arr 36)).alloc (boxV t p.v)).alloc zeroE)) := hid (box3_below w _ _ _)
  have y0 : (((w.alloc (.cells e.arr 36)).alloc (boxV t p.v)).alloc zeroE).cell? ⟨w.heap.size + 1, 0, none⟩ = some (.int .i64 t) := (cellAt' HY.out 0).trans rfl
  have y1 : (((w.alloc (.cells e.arr 36)).alloc (boxV t p.v)).alloc zeroE).cell? ⟨w.heap.size + 1, 1, none⟩ = some (.slice p.a p.n p.c) := (cellAt' HY.out 1).trans rfl
  go_enter Try.func35, Try.ntmps35
  go_wp2_with fail
  go_at_call 63
  refine (hF _ HW.out).mono ?_
  rintro x w1 ⟨rfl, hB⟩
  replace HX := hid (heapB HX.out hB (Array.getElem?_eq_some_iff.1 HX.out).1)
  replace HY := hid (heapB HY.out hB (Array.getElem?_eq_some_iff.1 HY.out).1)
  replace HZ := hid (heapB HZ.out hB (Array.getElem?_eq_some_iff.1 HZ.out).1)
  replace HW := hid (HW.out.trans (hB.mono HW.out.size))
  clear hB
  clear y0 y1
  have y0 : w1.cell? ⟨w.heap.size + 1, 0, none⟩ = some (.int .i64 t) := (cellAt' HY.out 0).trans rfl
  have y1 : w1.cell? ⟨w.heap.size + 1, 1, none⟩ = some (.slice p.a p.n p.c) := (cellAt' HY.out 1).trans rfl
  have c17 : w1.cell? ⟨w.heap.size, 17, none⟩ = some (.int .i64 e.vt) := (cellAt' HX.out 17).trans rfl
  have c18 : w1.cell? ⟨w.heap.size, 18, none⟩ = some (.slice e.vp.a e.vp.n e.vp.c) := (cellAt' HX.out 18).trans rfl
  go_wp2_with fail
  go_at_call 36
  refine (hS _ HW.out).mono ?_
  rintro x w2 ⟨rfl, hB⟩
  replace HX := hid (heapB HX.out hB (Array.getElem?_eq_some_iff.1 HX.out).1)
  replace HY := hid (heapB HY.out hB (Array.getElem?_eq_some_iff.1 HY.out).1)
  replace HZ := hid (heapB HZ.out hB (Array.getElem?_eq_some_iff.1 HZ.out).1)
  replace HW := hid (HW.out.trans (hB.mono HW.out.size))
  clear hB
  clear y0 y1 c17 c18
  have y0 : w2.cell? ⟨w.heap.size + 1, 0, none⟩ = some (.int .i64 t) := (cellAt' HY.out 0).trans rfl
  have y1 : w2.cell? ⟨w.heap.size + 1, 1, none⟩ = some (.slice p.a p.n p.c) := (cellAt' HY.out 1).trans rfl
  have c16 : w2.cell? ⟨w.heap.size, 16, none⟩ = some (.bool e.dn) := (cellAt' HX.out 16).trans rfl
  rcases b1 with _ | _
  · have hr := rangeOf HX.out
    have ht := thereOf (n := 19) HZ.out (by decide)
    have HE := hid (show finE e t p false b2 = (e, 1) from rfl)
    go_wp2_with (first
      | (refine loadE (x := ?lx04) (b := ?lb04) e ?lg4 ?lo4 ?lx4 ?lc4 ?lh4; (case lg4 => rfl); (case lo4 => rfl); (case lx4 => rfl); (case lc4 => exact hr))
      | (refine storeE (x := ?sx04) (y := ?sy04) (b := ?sb04) e ?sg4 ?so4 ?sx4 ?sy4 ?sc4 ?sh4; (case sg4 => rfl); (case so4 => rfl); (case sx4 => rfl); (case sy4 => rfl); (case sc4 => exact ht)))
    refine bodyPost_ret (ret_cell_tmp rfl rfl rfl (setsE ht) Try.underlying36 rfl (infoE e)) rfl ⟨by rw [HE.out]; rfl, ?_⟩
    exact below_cells (by omega) _ _ _ HW.out
  · by_cases h6 : e.dn = true ∧ b2 = false
    · obtain ⟨h7, h8⟩ := h6
      subst h8
      rw [h7] at c16
      have hr := rangeOf HX.out
      have ht := thereOf (n := 19) HZ.out (by decide)
      have HE := hid (show finE e t p true false = (e, 6) by unfold finE; rw [if_neg (by simp), if_pos ⟨h7, rfl⟩])
      go_wp2_with (first
        | (refine loadE (x := ?lx05) (b := ?lb05) e ?lg5 ?lo5 ?lx5 ?lc5 ?lh5; (case lg5 => rfl); (case lo5 => rfl); (case lx5 => rfl); (case lc5 => exact hr))
        | (refine storeE (x := ?sx05) (y := ?sy05) (b := ?sb05) e ?sg5 ?so5 ?sx5 ?sy5 ?sc5 ?sh5; (case sg5 => rfl); (case so5 => rfl); (case sx5 => rfl); (case sy5 => rfl); (case sc5 => exact ht)))
      refine bodyPost_ret (ret_cell_tmp rfl rfl rfl (setsE ht) Try.underlying36 rfl (infoE e)) rfl ⟨by rw [HE.out]; rfl, ?_⟩
      exact below_cells (by omega) _ _ _ HW.out
    · obtain ⟨e', he'⟩ : ∃ e' : Ev, e' = { e with dn := true, vt := t, vp := p } := ⟨_, rfl⟩
      have HE := hid (show finE e t p true b2 = (e', 0) by unfold finE; rw [if_neg (by simp), if_neg h6, he'])
      have hr : (((w2.setCell ⟨w.heap.size, 16, none⟩ (.bool true)).setCell ⟨w.heap.size, 17, none⟩ (.int .i64 t)).setCell ⟨w.heap.size, 18, none⟩ (.slice p.a p.n p.c)).rangeAt w.heap.size 0 e'.list := by
        rw [he']
        exact rangeSet (rangeSet (rangeSet (rangeOf HX.out) (by rw [Ev.len]; omega)) (by rw [List.length_set, Ev.len]; omega)) (by rw [List.length_set, List.length_set, Ev.len]; omega)
      have ht := thereSet (a := ⟨w.heap.size, 18, none⟩) (v := (.slice p.a p.n p.c)) (thereSet (a := ⟨w.heap.size, 17, none⟩) (v := .int .i64 t) (thereSet (a := ⟨w.heap.size, 16, none⟩) (v := .bool true) (thereOf (n := 19) HZ.out (by decide))))
      have hb := ((HW.out.setCell (p := ⟨w.heap.size, 16, none⟩) (Nat.le_refl _) (.bool true)).setCell (p := ⟨w.heap.size, 17, none⟩) (Nat.le_refl _) (.int .i64 t)).setCell (p := ⟨w.heap.size, 18, none⟩) (Nat.le_refl _) (.slice p.a p.n p.c)
      have c17 : w2.cell? ⟨w.heap.size, 17, none⟩ = some (.int .i64 e.vt) := (cellAt' HX.out 17).trans rfl
      have c18 : w2.cell? ⟨w.heap.size, 18, none⟩ = some (.slice e.vp.a e.vp.n e.vp.c) := (cellAt' HX.out 18).trans rfl
      have fz : ∀ j, w2.frozen? ⟨w.heap.size, j, none⟩ = false := fun j => frozenAt HX.out j
      clear he'
      rcases hd : e.dn with _ | _
      · rw [hd] at c16
        rcases b2 with _ | _
        · go_wp2_with (first
            | (refine loadE (x := ?lx01) (b := ?lb01) e' ?lg1 ?lo1 ?lx1 ?lc1 ?lh1; (case lg1 => rfl); (case lo1 => rfl); (case lx1 => rfl); (case lc1 => exact hr))
            | (refine storeE (x := ?sx01) (y := ?sy01) (b := ?sb01) e' ?sg1 ?so1 ?sx1 ?sy1 ?sc1 ?sh1; (case sg1 => rfl); (case so1 => rfl); (case sx1 => rfl); (case sy1 => rfl); (case sc1 => exact ht)))
          refine bodyPost_ret (ret_cell_tmp rfl rfl rfl (setsE ht) Try.underlying36 rfl (infoE e')) rfl ⟨by rw [HE.out]; rfl, ?_⟩
          exact below_cells (by omega) _ _ _ hb
        · go_wp2_with (first
            | (refine loadE (x := ?lx02) (b := ?lb02) e' ?lg2 ?lo2 ?lx2 ?lc2 ?lh2; (case lg2 => rfl); (case lo2 => rfl); (case lx2 => rfl); (case lc2 => exact hr))
            | (refine storeE (x := ?sx02) (y := ?sy02) (b := ?sb02) e' ?sg2 ?so2 ?sx2 ?sy2 ?sc2 ?sh2; (case sg2 => rfl); (case so2 => rfl); (case sx2 => rfl); (case sy2 => rfl); (case sc2 => exact ht)))
          refine bodyPost_ret (ret_cell_tmp rfl rfl rfl (setsE ht) Try.underlying36 rfl (infoE e')) rfl ⟨by rw [HE.out]; rfl, ?_⟩
          exact below_cells (by omega) _ _ _ hb
      · rw [hd] at c16
        rcases b2 with _ | _
        · exact absurd ⟨hd, rfl⟩ h6
        · go_wp2_with (first
            | (refine loadE (x := ?lx03) (b := ?lb03) e' ?lg3 ?lo3 ?lx3 ?lc3 ?lh3; (case lg3 => rfl); (case lo3 => rfl); (case lx3 => rfl); (case lc3 => exact hr))
            | (refine storeE (x := ?sx03) (y := ?sy03) (b := ?sb03) e' ?sg3 ?so3 ?sx3 ?sy3 ?sc3 ?sh3; (case sg3 => rfl); (case so3 => rfl); (case sx3 => rfl); (case sy3 => rfl); (case sc3 => exact ht)))
          refine bodyPost_ret (ret_cell_tmp rfl rfl rfl (setsE ht) Try.underlying36 rfl (infoE e')) rfl ⟨by rw [HE.out]; rfl, ?_⟩
          exact below_cells (by omega) _ _ _ hb
end Go.Proofs.Ytmndjdaiailgmaa
