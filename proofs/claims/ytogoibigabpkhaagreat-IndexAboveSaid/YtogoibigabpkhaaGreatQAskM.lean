import Derived.Test.YtogoibigabpkhaaGreatQTouchM
import Derived.Test.YtogoibigabpkhaaGreatG30
import Derived.Test.YtogoibigabpkhaaGreatG15
/- Pred, Holders, Killers, Absent of the program's index. -/
namespace Go.Proofs.YtogoibigabpkhaaGreat
set_option linter.unusedVariables false
open Go.RowKit
open Go.Lib (hid)

set_option maxHeartbeats 1000000 in
set_option maxRecDepth 100000 in
theorem cStands {v : Value} {cs : List C7} {w : World} (h : Sl w v cs) (hl : cs.length ≤ 100000) (id : Int) : Calls Tryz.prog 61 #[v, .int .i64 id] w fun e w' => e = .returned (.bool (foundB cs id)) ∧ Below w.heap.size w w' := by
  have hF := cFind h hl id
  generalize foundC cs id = d at hF
  generalize foundB cs id = r at hF ⊢
  clear h
  go_enter Tryz.func61, Tryz.ntmps61
  go_wp2_with fail
  go_at_call 90
  refine hF.mono ?_
  rintro e w1 ⟨rfl, hB⟩
  have HB := hid (hB.trans (((Below.refl _ w1).alloc (Nat.le_refl _) (.cells #[.int .i64 d.i, .int .i64 d.k, .int .i64 d.s, .int .i64 d.t, .int .i64 d.d, .int .i64 d.p, .int .i64 d.q] 40)).mono hB.size))
  clear hB
  go_wp2_with fail
  go_ret
  exact ⟨rfl, HB.out⟩

/-- A box of one cell, and what it holds, wherever the walk has come. -/
abbrev Cap (W : World) (q : Nat) (v : Value) : Prop := W.cell? ⟨q, 0, none⟩ = some v
theorem capOn {W W' : World} {q B : Nat} {v : Value} (h : Cap W q v) (hb : Below B W W') (hq : q < B) : Cap W' q v := (hb.cell (p := ⟨q, 0, none⟩) hq).trans h
set_option maxHeartbeats 1000000 in
theorem cPred1 {w : World} {q : Nat} {t : Int} (e : Ev) (hq : Cap w q (.int .i64 t)) (hl : q < w.heap.size) : Calls Tryz.prog 55 #[.agg e.arr, ptr q] w fun r w' => r = .returned (.bool (aheadE e t)) ∧ Below w.heap.size w w' := by
  have HX : Hid (Ob (w.alloc (.cells e.arr 44)) w.heap.size 44 e) := hid (heap_alloc_new w _)
  have HW : Hid (Below w.heap.size w (w.alloc (.cells e.arr 44))) := hid ((Below.refl _ w).alloc (Nat.le_refl _) _)
  have HQ := hid hq
  clear hq
  have hq : (w.alloc (.cells e.arr 44)).cell? ⟨q, 0, none⟩ = some (.int .i64 t) := capOn HQ.out HW.out hl
  have hC := cAheadE e t (w.alloc (.cells e.arr 44))
  generalize aheadE e t = r at hC ⊢
  go_enter Tryz.func55, Tryz.ntmps55
  go_wp2_with (first
    | ((with_reducible refine loadC (x := ?cx2) (b := w.heap.size) (T := 44) e ?cg2 ?co2 ?cxx2 ?cc2 ?_); (case cg2 => rfl); (case co2 => rfl); (case cxx2 => rfl); (case cc2 => exact HX.out))
    | (go_at_call 56; refine hC.mono ?_; rintro z w1 ⟨rfl, hB⟩; have HB := hid (HW.out.trans (hB.mono HW.out.size)); clear hB)
    | fail)
  go_ret
  exact ⟨rfl, HB.out⟩
set_option maxHeartbeats 1000000 in
theorem cHolders1 {w : World} {q : Nat} {t : Int} (e : Ev) (hq : Cap w q (.int .i64 t)) (hl : q < w.heap.size) : Calls Tryz.prog 58 #[.agg e.arr, ptr q] w fun r w' => r = .returned (.bool (holdsE e t)) ∧ Below w.heap.size w w' := by
  have HX : Hid (Ob (w.alloc (.cells e.arr 44)) w.heap.size 44 e) := hid (heap_alloc_new w _)
  have HW : Hid (Below w.heap.size w (w.alloc (.cells e.arr 44))) := hid ((Below.refl _ w).alloc (Nat.le_refl _) _)
  have HQ := hid hq
  clear hq
  have hq : (w.alloc (.cells e.arr 44)).cell? ⟨q, 0, none⟩ = some (.int .i64 t) := capOn HQ.out HW.out hl
  have hC := cHoldsE e t (w.alloc (.cells e.arr 44))
  generalize holdsE e t = r at hC ⊢
  go_enter Tryz.func58, Tryz.ntmps58
  go_wp2_with (first
    | ((with_reducible refine loadC (x := ?cx2) (b := w.heap.size) (T := 44) e ?cg2 ?co2 ?cxx2 ?cc2 ?_); (case cg2 => rfl); (case co2 => rfl); (case cxx2 => rfl); (case cc2 => exact HX.out))
    | (go_at_call 59; refine hC.mono ?_; rintro z w1 ⟨rfl, hB⟩; have HB := hid (HW.out.trans (hB.mono HW.out.size)); clear hB)
    | fail)
  go_ret
  exact ⟨rfl, HB.out⟩
/-- It rules a command out. -/
def killB (t i : Int) (y : En) : Bool := y.e.dn && (decide (t < y.e.vt) && !foundB y.v i)
set_option maxHeartbeats 1000000 in
set_option maxRecDepth 100000 in
theorem cKillers1 {w : World} {q q2 : Nat} {t i : Int} (y : En) (hy : y.at w) (hs : y.short 1024) (hq : Cap w q (.int .i64 t)) (hl : q < w.heap.size) (hq2 : Cap w q2 (.int .i64 i)) (hl2 : q2 < w.heap.size) : Calls Tryz.prog 60 #[.agg y.e.arr, ptr q, ptr q2] w fun r w' => r = .returned (.bool (killB t i y)) ∧ Below w.heap.size w w' := by
  have HX : Hid (Ob (w.alloc (.cells y.e.arr 44)) w.heap.size 44 y.e) := hid (heap_alloc_new w _)
  have HW : Hid (Below w.heap.size w (w.alloc (.cells y.e.arr 44))) := hid ((Below.refl _ w).alloc (Nat.le_refl _) _)
  have HQ := hid hq
  have HQ2 := hid hq2
  have HY := hid hy
  obtain ⟨dn, hdn⟩ : ∃ d, d = y.e.dn := ⟨_, rfl⟩
  obtain ⟨fb, hfb⟩ : ∃ d, d = foundB y.v i := ⟨_, rfl⟩
  have HK := hid (show killB t i y = (dn && (decide (t < y.e.vt) && !fb)) by rw [hdn, hfb]; rfl)
  have hS := cStands ((HY.out.on HW.out).2.2) (by have := hs.2.2; omega) i
  rw [← hfb] at hS
  rw [HK.out]
  clear hq hq2 hy hfb
  have d1 : (w.alloc (.cells y.e.arr 44)).cell? ⟨w.heap.size, 16, none⟩ = some (.bool dn) := by rw [hdn]; exact HX.out.cell (j := 16) rfl
  have d2 : (w.alloc (.cells y.e.arr 44)).cell? ⟨w.heap.size, 17, none⟩ = some (.int .i64 y.e.vt) := HX.out.cell (j := 17) rfl
  have d3 : (w.alloc (.cells y.e.arr 44)).cell? ⟨w.heap.size, 18, none⟩ = some y.e.vp.v := HX.out.cell (j := 18) rfl
  generalize y.e.vp.v = vp at hS d3
  generalize y.e.vt = vt at d2 ⊢
  clear hdn HK
  have hvt : t < vt ∨ ¬ t < vt := by omega
  have hq : (w.alloc (.cells y.e.arr 44)).cell? ⟨q, 0, none⟩ = some (.int .i64 t) := capOn HQ.out HW.out hl
  have hq2 : (w.alloc (.cells y.e.arr 44)).cell? ⟨q2, 0, none⟩ = some (.int .i64 i) := capOn HQ2.out HW.out hl2
  rcases dn with _ | _
  · go_enter Tryz.func60, Tryz.ntmps60
    go_wp2_with fail
    go_ret
    exact ⟨rfl, HW.out⟩
  · rcases hvt with hvt | hvt
    · rw [show (decide (t < vt)) = true from decide_eq_true hvt]
      go_enter Tryz.func60, Tryz.ntmps60
      go_wp2_with (first
        | (go_at_call 61; refine hS.mono ?_; rintro z w1 ⟨rfl, hB⟩; have HB := hid (HW.out.trans (hB.mono HW.out.size)); clear hB)
        | fail)
      go_ret
      exact ⟨by cases fb <;> rfl, HB.out⟩
    · rw [show (decide (t < vt)) = false from decide_eq_false hvt]
      go_enter Tryz.func60, Tryz.ntmps60
      go_wp2_with fail
      go_ret
      exact ⟨rfl, HW.out⟩
/-- It is absent. -/
def absB (t : Int) (ps : List C7) (d : Bool) (y : En) : Bool := (y.e.dn == d) && (aheadE y.e t && !foundB ps y.id)
set_option maxHeartbeats 1000000 in
set_option maxRecDepth 100000 in
theorem cAbsent1 {w : World} {qd q qp : Nat} {t : Int} {d : Bool} {pv : Value} {ps : List C7} (y : En) (hp : Sl w pv ps) (hps : ps.length ≤ 1024) (hd : Cap w qd (.bool d)) (hdl : qd < w.heap.size) (hq : Cap w q (.int .i64 t)) (hl : q < w.heap.size) (hqp : Cap w qp pv) (hpl : qp < w.heap.size) : Calls Tryz.prog 62 #[.agg y.e.arr, ptr qd, ptr q, ptr qp] w fun r w' => r = .returned (.bool (absB t ps d y)) ∧ Below w.heap.size w w' := by
  have HX : Hid (Ob (w.alloc (.cells y.e.arr 44)) w.heap.size 44 y.e) := hid (heap_alloc_new w _)
  have HW : Hid (Below w.heap.size w (w.alloc (.cells y.e.arr 44))) := hid ((Below.refl _ w).alloc (Nat.le_refl _) _)
  have HQ := hid hq
  have HD := hid hd
  have HP := hid hqp
  have HS := hid hp
  obtain ⟨dn, hdn⟩ : ∃ d, d = y.e.dn := ⟨_, rfl⟩
  obtain ⟨fb, hfb⟩ : ∃ d, d = foundB ps y.id := ⟨_, rfl⟩
  have hA := fun W => cAheadE y.e t W
  have HF := hid (fun W (hW : Below w.heap.size w W) => cStands (HS.out.on hW) (by omega) y.id)
  rw [← hfb] at HF
  have HK := hid (show absB t ps d y = ((dn == d) && (aheadE y.e t && !fb)) by rw [hdn, hfb]; rfl)
  rw [HK.out]
  generalize aheadE y.e t = ab at hA ⊢
  clear hq hd hqp hp hfb HK
  have d1 : (w.alloc (.cells y.e.arr 44)).cell? ⟨w.heap.size, 16, none⟩ = some (.bool dn) := by rw [hdn]; exact HX.out.cell (j := 16) rfl
  clear hdn
  have hd : (w.alloc (.cells y.e.arr 44)).cell? ⟨qd, 0, none⟩ = some (.bool d) := capOn HD.out HW.out hdl
  have hq : (w.alloc (.cells y.e.arr 44)).cell? ⟨q, 0, none⟩ = some (.int .i64 t) := capOn HQ.out HW.out hl
  by_cases he : dn = d
  · subst he
    rw [show (dn == dn) = true from by cases dn <;> rfl]
    rcases ab with _ | _
    · rcases dn with _ | _ <;> (
      go_enter Tryz.func62, Tryz.ntmps62
      go_wp2_with (first
        | ((with_reducible refine loadGC (x := ?cx2) (b := w.heap.size) (T := 44) y.e ?cg2 ?co2 ?cxx2 ?cc2 ?_); (case cg2 => rfl); (case co2 => rfl); (case cxx2 => rfl); (case cc2 => exact HX.out))
        | (go_at_call 56; refine (hA _).mono ?_; rintro z w1 ⟨rfl, hB⟩; have HB := hid (HW.out.trans (hB.mono HW.out.size)); clear hB)
        | fail)
      go_ret
      exact ⟨rfl, HB.out⟩)
    · rcases dn with _ | _ <;> (
      go_enter Tryz.func62, Tryz.ntmps62
      go_wp2_with (first
        | ((with_reducible refine loadGC (x := ?cx2) (b := w.heap.size) (T := 44) y.e ?cg2 ?co2 ?cxx2 ?cc2 ?_); (case cg2 => rfl); (case co2 => rfl); (case cxx2 => rfl); (case cc2 => exact HX.out))
        | (go_at_call 56; refine (hA _).mono ?_; rintro z w1 ⟨rfl, hB⟩; have HB := hid (HW.out.trans (hB.mono HW.out.size)); have hF := HF.out w1 HB.out; have hp1 : w1.cell? ⟨qp, 0, none⟩ = some pv := capOn HP.out HB.out hpl; have hi1 : w1.cell? ⟨w.heap.size, 0, none⟩ = some (.int .i64 y.e.c.i) := (cellAt' (heapB HX.out hB (Array.getElem?_eq_some_iff.1 HX.out).1) 0).trans rfl; clear hB)
        | (go_at_call 61; refine hF.mono ?_; rintro z w2 ⟨rfl, hB⟩; have HB2 := hid (HB.out.trans (hB.mono HB.out.size)); clear hB)
        | fail)
      go_ret
      exact ⟨by cases fb <;> rfl, HB2.out⟩)
  · have he2 : (dn == d) = false := by cases dn <;> cases d <;> simp_all
    rw [he2]
    rcases dn with _ | _ <;> rcases d with _ | _ <;> first | (exfalso; exact he rfl) | (
      go_enter Tryz.func62, Tryz.ntmps62
      go_wp2_with fail
      go_ret
      exact ⟨rfl, HW.out⟩)
end Go.Proofs.YtogoibigabpkhaaGreat
