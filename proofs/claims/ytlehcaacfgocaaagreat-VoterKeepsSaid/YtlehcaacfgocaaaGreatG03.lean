import Derived.Test.YtlehcaacfgocaaaGreatG02
import Derived.Deep.CutRange
import Derived.Deep.Heap
import Derived.Deep.Upon
import Derived.BigRegion
import Derived.WalkMore
import Derived.Lib.SliceRun
import Derived.ScopeJumps
/- Entries by value: the law's Of; the document's Same and Right. -/

namespace Go.Proofs.YtlehcaacfgocaaaGreat
set_option linter.unusedVariables false
open Go.RowKit
open Go.Lib (hid)

theorem box2_heap (w : World) (e : Ev) (T : TypeId) (o : Obj) : ((w.alloc (.cells e.arr T)).alloc o).heap[w.heap.size]? = some (.cells e.arr T) := (Below.heap_alloc _ _ _ (by simp)).trans (heap_alloc_new w _)
theorem ret_cell1 {P : Program} {fn : Func} {a : Act} {w : World} {p : Tmp} {ty : TypeId} {b o : Nat} {cs : List Value} {d : TypeDesc} (h : fn.results = #[.cell p ty]) (hp : a.tmps.getD p undef = .pointer (some ⟨b, o, none⟩))
    (hc : w.rangeAt b o cs) (ht : P.underlying ty = some d) (hd : d.isRow = true) (hi : (P.info? ty).map (·.size) = some cs.length) : (results fn a.tmps).run P w = .ok (.agg cs.toArray) w := by
  simp only [results, h]
  have h1 := run_loadVar_mid w b o ty cs d hc ht hd hi
  simp only [Array.getD_eq_getD_getElem?] at hp
  simp [hp, asAddr, h1]

set_option maxHeartbeats 1600000 in
set_option maxRecDepth 100000 in
theorem cOf (e : Ev) (w : World) : Calls Tryz.prog 36 #[.agg e.arr] w fun x w' => x = .returned (.agg e.arr) ∧ Below w.heap.size w w' := by
  have hh := box2_heap w e 67 zeroE
  have c0 : ((w.alloc (.cells e.arr 67)).alloc zeroE).cell? ⟨w.heap.size, 0, none⟩ = some (.int .i64 e.c.i) := (cellAt' hh 0).trans rfl
  have c1 : ((w.alloc (.cells e.arr 67)).alloc zeroE).cell? ⟨w.heap.size, 1, none⟩ = some (.int .i64 e.c.k) := (cellAt' hh 1).trans rfl
  have c2 : ((w.alloc (.cells e.arr 67)).alloc zeroE).cell? ⟨w.heap.size, 2, none⟩ = some (.int .i64 e.c.s) := (cellAt' hh 2).trans rfl
  have c3 : ((w.alloc (.cells e.arr 67)).alloc zeroE).cell? ⟨w.heap.size, 3, none⟩ = some (.int .i64 e.c.t) := (cellAt' hh 3).trans rfl
  have c4 : ((w.alloc (.cells e.arr 67)).alloc zeroE).cell? ⟨w.heap.size, 4, none⟩ = some (.int .i64 e.c.d) := (cellAt' hh 4).trans rfl
  have c5 : ((w.alloc (.cells e.arr 67)).alloc zeroE).cell? ⟨w.heap.size, 5, none⟩ = some (.int .i64 e.c.p) := (cellAt' hh 5).trans rfl
  have c6 : ((w.alloc (.cells e.arr 67)).alloc zeroE).cell? ⟨w.heap.size, 6, none⟩ = some (.int .i64 e.c.q) := (cellAt' hh 6).trans rfl
  have c7 : ((w.alloc (.cells e.arr 67)).alloc zeroE).cell? ⟨w.heap.size, 7, none⟩ = some (.int .i64 e.pr) := (cellAt' hh 7).trans rfl
  have c8 : ((w.alloc (.cells e.arr 67)).alloc zeroE).cell? ⟨w.heap.size, 8, none⟩ = some (.int .i64 e.lo) := (cellAt' hh 8).trans rfl
  have c9 : ((w.alloc (.cells e.arr 67)).alloc zeroE).cell? ⟨w.heap.size, 9, none⟩ = some (.int .i64 e.hi) := (cellAt' hh 9).trans rfl
  have c10 : ((w.alloc (.cells e.arr 67)).alloc zeroE).cell? ⟨w.heap.size, 10, none⟩ = some (.int .i64 e.ft) := (cellAt' hh 10).trans rfl
  have c11 : ((w.alloc (.cells e.arr 67)).alloc zeroE).cell? ⟨w.heap.size, 11, none⟩ = some (.slice e.fp.a e.fp.n e.fp.c) := (cellAt' hh 11).trans rfl
  have c12 : ((w.alloc (.cells e.arr 67)).alloc zeroE).cell? ⟨w.heap.size, 12, none⟩ = some (.int .i64 e.ab) := (cellAt' hh 12).trans rfl
  have c13 : ((w.alloc (.cells e.arr 67)).alloc zeroE).cell? ⟨w.heap.size, 13, none⟩ = some (.int .i64 e.xt) := (cellAt' hh 13).trans rfl
  have c14 : ((w.alloc (.cells e.arr 67)).alloc zeroE).cell? ⟨w.heap.size, 14, none⟩ = some (.slice e.xp.a e.xp.n e.xp.c) := (cellAt' hh 14).trans rfl
  have c15 : ((w.alloc (.cells e.arr 67)).alloc zeroE).cell? ⟨w.heap.size, 15, none⟩ = some (.bool e.fr) := (cellAt' hh 15).trans rfl
  have c16 : ((w.alloc (.cells e.arr 67)).alloc zeroE).cell? ⟨w.heap.size, 16, none⟩ = some (.bool e.dn) := (cellAt' hh 16).trans rfl
  have c17 : ((w.alloc (.cells e.arr 67)).alloc zeroE).cell? ⟨w.heap.size, 17, none⟩ = some (.int .i64 e.vt) := (cellAt' hh 17).trans rfl
  have c18 : ((w.alloc (.cells e.arr 67)).alloc zeroE).cell? ⟨w.heap.size, 18, none⟩ = some (.slice e.vp.a e.vp.n e.vp.c) := (cellAt' hh 18).trans rfl
  have ht : ((w.alloc (.cells e.arr 67)).alloc zeroE).there (w.heap.size + 1) 0 19 := by
    have := thereNew (w.alloc (.cells e.arr 67)) (match zeroE with | .cells C _ _ => C | _ => #[]) 78 19 (by decide)
    rwa [World.size_alloc] at this
  have hb : Below w.heap.size w ((w.alloc (.cells e.arr 67)).alloc zeroE) := ((Below.refl _ w).alloc (Nat.le_refl _) _).alloc (by simp) _
  clear hh
  go_enter Tryz.func36, Tryz.ntmps36
  go_wp2_with (refine wpList_store_mid rfl 78 _ _ rfl _ _ e.arr rfl rfl ht (infoE' e) (Ev.one e) ?_)
  refine bodyPost_ret (ret_cell1 rfl rfl (setsE ht) Tryz.underlying78 rfl (infoE e)) rfl ⟨rfl, ?_⟩
  exact below_cells (by omega) _ _ _ hb

end Go.Proofs.YtlehcaacfgocaaaGreat
/- Entries by value: the document's Right. -/
namespace Go.Proofs.YtlehcaacfgocaaaGreat
set_option linter.unusedVariables false
open Go.RowKit
open Go.Lib (hid)

def timesB (lo hi : Int) : Bool := (decide (lo = 0) && decide (hi = 0)) || (validB lo && validB hi && decide (lo ≤ hi))
def rightE (e : Ev) (f a v : List C7) : Bool := e.c.ok && withinB e.pr 1048576 && timesB e.lo e.hi && mustB e.ft f (!decide (e.ft = 0)) && withinB e.ab 1048576 && mustB e.xt a (!decide (e.ab = 0)) && mustB e.vt v e.dn

set_option maxHeartbeats 4000000 in
set_option maxRecDepth 100000 in
theorem rRightE {e : Ev} {f a v : List C7} {w : World} (hf : Sl w e.fp.v f) (ha : Sl w e.xp.v a) (hv : Sl w e.vp.v v) (lf : f.length ≤ 1024) (la : a.length ≤ 1024) (lv : v.length ≤ 1024) :
    Calls Tryz.prog 25 #[.agg e.arr] w fun x w' => x = .returned (.bool (rightE e f a v)) ∧ Below w.heap.size w w' := by
  obtain ⟨b1, hb1⟩ : ∃ b, b = e.c.ok := ⟨_, rfl⟩
  obtain ⟨b2, hb2⟩ : ∃ b, b = withinB e.pr 1048576 := ⟨_, rfl⟩
  obtain ⟨b3, hb3⟩ : ∃ b, b = validB e.lo := ⟨_, rfl⟩
  obtain ⟨b4, hb4⟩ : ∃ b, b = validB e.hi := ⟨_, rfl⟩
  obtain ⟨b5, hb5⟩ : ∃ b, b = mustB e.ft f (!decide (e.ft = 0)) := ⟨_, rfl⟩
  obtain ⟨b6, hb6⟩ : ∃ b, b = withinB e.ab 1048576 := ⟨_, rfl⟩
  obtain ⟨b7, hb7⟩ : ∃ b, b = mustB e.xt a (!decide (e.ab = 0)) := ⟨_, rfl⟩
  obtain ⟨b8, hb8⟩ : ∃ b, b = mustB e.vt v e.dn := ⟨_, rfl⟩
  have HE := hid (show rightE e f a v = (b1 && b2 && ((decide (e.lo = 0) && decide (e.hi = 0)) || (b3 && b4 && decide (e.lo ≤ e.hi))) && b5 && b6 && b7 && b8) by rw [hb1, hb2, hb3, hb4, hb5, hb6, hb7, hb8]; rfl)
  have hO : ∀ W, Calls Tryz.prog 54 #[.agg #[.int .i64 e.c.i, .int .i64 e.c.k, .int .i64 e.c.s, .int .i64 e.c.t, .int .i64 e.c.d, .int .i64 e.c.p, .int .i64 e.c.q]] W fun x w' => x = .returned (.bool e.c.ok) ∧ Below W.heap.size W w' := fun W => rOne e.c.i e.c.k e.c.s e.c.t e.c.d e.c.p e.c.q W
  have hV1 := fun W => rValid e.lo W
  have hV2 := fun W => rValid e.hi W
  have hM1 := fun (W : World) (is : Bool) (hi : is = !decide (e.ft = 0)) (hB : Below w.heap.size w W) => (show Calls Tryz.prog 56 #[.agg #[.int .i64 e.ft, e.fp.v], .bool is] W fun x w' => x = .returned (.bool (mustB e.ft f (!decide (e.ft = 0)))) ∧ Below W.heap.size W w' from hi ▸ rMust e.ft is (hf.on hB) lf)
  have hM2 := fun (W : World) (is : Bool) (hi : is = !decide (e.ab = 0)) (hB : Below w.heap.size w W) => (show Calls Tryz.prog 56 #[.agg #[.int .i64 e.xt, e.xp.v], .bool is] W fun x w' => x = .returned (.bool (mustB e.xt a (!decide (e.ab = 0)))) ∧ Below W.heap.size W w' from hi ▸ rMust e.xt is (ha.on hB) la)
  have hM3 := fun (W : World) (hB : Below w.heap.size w W) => rMust e.vt e.dn (hv.on hB) lv
  have hP1 := fun W => rBallot e.pr W
  have hP2 := fun W => rBallot e.ab W
  rw [← hb1] at hO
  rw [← hb3] at hV1
  rw [← hb4] at hV2
  rw [← hb5] at hM1
  rw [← hb7] at hM2
  rw [← hb8] at hM3
  rw [← hb2] at hP1
  rw [← hb6] at hP2
  clear hb1 hb2 hb3 hb4 hb5 hb6 hb7 hb8 hf ha hv
  have HX : Hid ((w.alloc (.cells e.arr 78)).heap[w.heap.size]? = some (.cells e.arr 78)) := hid (heap_alloc_new w _)
  have HW : Hid (Below w.heap.size w (w.alloc (.cells e.arr 78))) := hid ((Below.refl _ w).alloc (Nat.le_refl _) _)
  have hx := HX.out
  have c0 : (w.alloc (.cells e.arr 78)).cell? ⟨w.heap.size, 0, none⟩ = some (.int .i64 e.c.i) := (cellAt' hx 0).trans rfl
  have c1 : (w.alloc (.cells e.arr 78)).cell? ⟨w.heap.size, 1, none⟩ = some (.int .i64 e.c.k) := (cellAt' hx 1).trans rfl
  have c2 : (w.alloc (.cells e.arr 78)).cell? ⟨w.heap.size, 2, none⟩ = some (.int .i64 e.c.s) := (cellAt' hx 2).trans rfl
  have c3 : (w.alloc (.cells e.arr 78)).cell? ⟨w.heap.size, 3, none⟩ = some (.int .i64 e.c.t) := (cellAt' hx 3).trans rfl
  have c4 : (w.alloc (.cells e.arr 78)).cell? ⟨w.heap.size, 4, none⟩ = some (.int .i64 e.c.d) := (cellAt' hx 4).trans rfl
  have c5 : (w.alloc (.cells e.arr 78)).cell? ⟨w.heap.size, 5, none⟩ = some (.int .i64 e.c.p) := (cellAt' hx 5).trans rfl
  have c6 : (w.alloc (.cells e.arr 78)).cell? ⟨w.heap.size, 6, none⟩ = some (.int .i64 e.c.q) := (cellAt' hx 6).trans rfl
  clear hx
  go_enter Tryz.func25, Tryz.ntmps25
  go_wp2_with fail
  go_at_call 54
  refine (hO _).mono ?_
  rintro x w1 ⟨rfl, hB⟩
  replace HX := hid (heapB HX.out hB (Array.getElem?_eq_some_iff.1 HX.out).1)
  replace HW := hid (HW.out.trans (hB.mono HW.out.size))
  clear hB c0 c1 c2 c3 c4 c5 c6
  have hx := HX.out
  have c8 : w1.cell? ⟨w.heap.size, 8, none⟩ = some (.int .i64 e.lo) := (cellAt' hx 8).trans rfl
  have c9 : w1.cell? ⟨w.heap.size, 9, none⟩ = some (.int .i64 e.hi) := (cellAt' hx 9).trans rfl
  have c10 : w1.cell? ⟨w.heap.size, 10, none⟩ = some (.int .i64 e.ft) := (cellAt' hx 10).trans rfl
  have c11 : w1.cell? ⟨w.heap.size, 11, none⟩ = some (.slice e.fp.a e.fp.n e.fp.c) := (cellAt' hx 11).trans rfl
  clear hx
  go_wp2_with fail
  go_at_call 55
  refine (hV1 _).mono ?_
  rintro x w' ⟨rfl, rfl⟩
  go_wp2_with fail
  go_at_call 55
  refine (hV2 _).mono ?_
  rintro x w' ⟨rfl, rfl⟩
  obtain ⟨b9, hb9⟩ : ∃ b, b = ((decide (e.lo = 0) && decide (e.hi = 0)) || (b3 && b4 && decide (e.lo ≤ e.hi))) := ⟨_, rfl⟩
  rw [← hb9] at HE
  go_upto_region 4 with fail
  go_cut [4, 5, 6] from 10 to 39 (fun _ _ u wx => u = .bool b9 ∧ wx = w1)
  case first =>
    go_wp2_with fail
    all_goals (
      go_meet
      exact ⟨by rw [hb9]; congr 1; first | (simp_all; done) | (simp_all; omega), rfl⟩)
  case rest =>
    obtain ⟨rfl, rfl⟩ := hcut
    clear hb9
    go_wp2_with fail
    go_at_call 56
    refine (hM1 _ _ (by first | rfl | simp) HW.out).mono ?_
    rintro x w2 ⟨rfl, hB⟩
    replace HX := hid (heapB HX.out hB (Array.getElem?_eq_some_iff.1 HX.out).1)
    replace HW := hid (HW.out.trans (hB.mono HW.out.size))
    clear hB c8 c9 c10 c11
    have hx := HX.out
    have c12 : w2.cell? ⟨w.heap.size, 12, none⟩ = some (.int .i64 e.ab) := (cellAt' hx 12).trans rfl
    have c13 : w2.cell? ⟨w.heap.size, 13, none⟩ = some (.int .i64 e.xt) := (cellAt' hx 13).trans rfl
    have c14 : w2.cell? ⟨w.heap.size, 14, none⟩ = some (.slice e.xp.a e.xp.n e.xp.c) := (cellAt' hx 14).trans rfl
    clear hx
    go_wp2_with fail
    go_at_call 56
    refine (hM2 _ _ (by first | rfl | simp) HW.out).mono ?_
    rintro x w3 ⟨rfl, hB⟩
    replace HX := hid (heapB HX.out hB (Array.getElem?_eq_some_iff.1 HX.out).1)
    replace HW := hid (HW.out.trans (hB.mono HW.out.size))
    clear hB c12 c13 c14
    have hx := HX.out
    have c16 : w3.cell? ⟨w.heap.size, 16, none⟩ = some (.bool e.dn) := (cellAt' hx 16).trans rfl
    have c17 : w3.cell? ⟨w.heap.size, 17, none⟩ = some (.int .i64 e.vt) := (cellAt' hx 17).trans rfl
    have c18 : w3.cell? ⟨w.heap.size, 18, none⟩ = some (.slice e.vp.a e.vp.n e.vp.c) := (cellAt' hx 18).trans rfl
    clear hx
    go_wp2_with fail
    go_at_call 56
    refine (hM3 _ HW.out).mono ?_
    rintro x w4 ⟨rfl, hB⟩
    replace HX := hid (heapB HX.out hB (Array.getElem?_eq_some_iff.1 HX.out).1)
    replace HW := hid (HW.out.trans (hB.mono HW.out.size))
    clear hB c16 c17 c18
    have hx := HX.out
    have c7 : w4.cell? ⟨w.heap.size, 7, none⟩ = some (.int .i64 e.pr) := (cellAt' hx 7).trans rfl
    have c12 : w4.cell? ⟨w.heap.size, 12, none⟩ = some (.int .i64 e.ab) := (cellAt' hx 12).trans rfl
    clear hx
    go_wp2_with (first
      | (go_at_call 57; refine (hP1 _).mono ?_; rintro x w' ⟨rfl, rfl⟩)
      | (go_at_call 57; refine (hP2 _).mono ?_; rintro x w' ⟨rfl, rfl⟩))
    all_goals (
      go_ret
      exact ⟨ret_bool (by rw [HE.out]; simp_all), HW.out⟩)
end Go.Proofs.YtlehcaacfgocaaaGreat
/- Entries by value: the document's Finish and Vote. -/
namespace Go.Proofs.YtlehcaacfgocaaaGreat
set_option linter.unusedVariables false
open Go.RowKit
open Go.Lib (hid)

theorem rangeOf {W : World} {q : Nat} {e : Ev} {T : TypeId} (h : W.heap[q]? = some (.cells e.arr T (0, 0))) : W.rangeAt q 0 e.list := fun j v hv => by
  rw [Nat.zero_add, cellAt' h, ← Ev.toList] at *
  simpa using hv
theorem thereOf {W : World} {q n : Nat} {C : Array Value} {T : TypeId} (h : W.heap[q]? = some (.cells C T (0, 0))) (hn : n ≤ C.size) : W.there q 0 n := fun j hj => by
  rw [Nat.zero_add]
  refine ⟨?_, frozenAt h j⟩
  rw [cellAt' h, Array.getElem?_eq_getElem (by omega)]; rfl
def votE (e : Ev) (t : Int) (p : Sv) (full same none : Bool) : Ev × Int := if full = false then (e, 1) else if same = true then (e, 0) else if none = false then (e, 6) else ({ (resE e t).1 with ft := t, fp := p }, 0)

end Go.Proofs.YtlehcaacfgocaaaGreat
/- Entries in their blocks: a block that holds an entry, what a store of a whole entry, and of a part, leaves. -/

namespace Go.Proofs.YtlehcaacfgocaaaGreat
set_option linter.unusedVariables false
open Go.RowKit
open Go.Lib (hid)
open Go.Deep (blk_setCell_other nblk_setCell)

theorem infoEc (e : Ev) : (Tryz.prog.info? 67).map (·.size) = some e.list.length := by rw [Ev.len]; kernel_rfl
theorem infoEc' (e : Ev) : (Tryz.prog.info? 67).map (·.size) = some e.arr.size := by rw [Ev.size]; kernel_rfl
/-- Block q holds an entry. -/
abbrev Ob (w : World) (q : Nat) (T : TypeId) (e : Ev) : Prop := w.heap[q]? = some (.cells e.arr T (0, 0))
theorem setsAll {q : Nat} {t : TypeId} : ∀ (vs : List Value) (o : Nat) (C : Array Value) (w : World), w.heap[q]? = some (.cells C t (0, 0)) →
    ∃ C', (w.setCells q o vs).heap[q]? = some (.cells C' t (0, 0)) ∧ C'.size = C.size ∧ (∀ j, j < o → C'[j]? = C[j]?) ∧ ∀ j, j < vs.length → o + j < C.size → C'[o + j]? = vs[j]?
  | [], o, C, w, h => ⟨C, h, rfl, fun _ _ => rfl, fun j hj => absurd hj (by simp)⟩
  | v :: vs, o, C, w, h => by
    obtain ⟨C', h1, h2, h3, h4⟩ := setsAll vs (o + 1) _ (w.setCell ⟨q, o, none⟩ v) (setAt h)
    refine ⟨C', h1, h2.trans (by simp), fun j hj => ?_, fun j hj hs => ?_⟩
    · rw [h3 j (by omega), Array.getElem?_setIfInBounds]; simp; omega
    · cases j with
      | zero =>
        rw [Nat.add_zero, h3 o (by omega), Array.getElem?_setIfInBounds]
        simp; omega
      | succ j =>
        have := h4 j (by simp at hj; omega) (by simp; omega)
        rw [show o + (j + 1) = o + 1 + j by omega, this]; rfl
theorem setsOb {w : World} {q : Nat} {T : TypeId} {C : Array Value} (e : Ev) (h : w.heap[q]? = some (.cells C T (0, 0))) (hs : C.size = 19) : Ob (w.setCells q 0 e.arr.toList) q T e := by
  obtain ⟨C', h1, h2, _, h4⟩ := setsAll e.arr.toList 0 C w h
  have : C' = e.arr := by
    apply Array.ext_getElem?
    intro j
    by_cases hj : j < 19
    · have := h4 j (by rw [Ev.toList, Ev.len]; exact hj) (by omega)
      rw [Nat.zero_add] at this
      rw [this]; simp
    · rw [Array.getElem?_eq_none (by omega), Array.getElem?_eq_none (by rw [Ev.size]; omega)]
  subst this
  exact h1
/-- What a store into one block leaves of the others. -/
structure Upd (q : Nat) (w W : World) : Prop where
  size : W.heap.size = w.heap.size
  other : ∀ k, k < w.heap.size → k ≠ q → W.heap[k]? = w.heap[k]?
  below : ∀ B, B ≤ q → Below B w W
theorem setsUpd (w : World) (q : Nat) (vs : List Value) : Upd q w (w.setCells q 0 vs) := by
  refine ⟨?_, fun k hk hne => World.heap_setCells_other w q 0 vs hk hne, fun B hB => below_cells hB _ _ _ (Below.refl _ _)⟩
  have : ∀ (vs : List Value) (o : Nat) (w : World), (w.setCells q o vs).heap.size = w.heap.size := by
    intro vs
    induction vs with
    | nil => intro o w; rfl
    | cons v vs ih => intro o w; exact (ih (o + 1) _).trans (nblk_setCell w _ v)
  exact this vs 0 w
theorem Upd.ob {q k : Nat} {w W : World} (h : Upd q w W) {o : Obj} (hk : w.heap[k]? = some o) (hne : k ≠ q) : W.heap[k]? = some o := (h.other k (Array.getElem?_eq_some_iff.1 hk).1 hne).trans hk
theorem Ob.range {w : World} {q : Nat} {T : TypeId} {e : Ev} (h : Ob w q T e) : w.rangeAt q 0 e.list := rangeOf h
theorem Ob.cell {w : World} {q : Nat} {T : TypeId} {e : Ev} (h : Ob w q T e) {j : Nat} {v : Value} (hv : e.list[j]? = some v) : w.cell? ⟨q, j, none⟩ = some v := by
  have := h.range j v hv; rwa [Nat.zero_add] at this
theorem Ob.free {w : World} {q : Nat} {T : TypeId} {e : Ev} (h : Ob w q T e) (j : Nat) : w.frozen? ⟨q, j, none⟩ = false := frozenAt h j
theorem Ob.set {w : World} {q j : Nat} {T : TypeId} {e e' : Ev} {v : Value} (h : Ob w q T e) (he : e.arr.setIfInBounds j v = e'.arr) : Ob (w.setCell ⟨q, j, none⟩ v) q T e' := by
  have := setAt (j := j) (x := v) h
  rwa [he] at this
theorem setOther {w : World} {q j k : Nat} {v : Value} {o : Obj} (h : w.heap[k]? = some o) (hne : k ≠ q) : (w.setCell ⟨q, j, none⟩ v).heap[k]? = some o := (blk_setCell_other w ⟨q, j, none⟩ v k hne).trans h

/-- Block q has room for an entry. -/
def Room (w : World) (q : Nat) (T : TypeId) : Prop := ∃ C : Array Value, w.heap[q]? = some (.cells C T (0, 0)) ∧ C.size = 19
theorem Ob.room {w : World} {q : Nat} {T : TypeId} {e : Ev} (h : Ob w q T e) : Room w q T := ⟨_, h, e.size⟩
theorem loadC {ops : Array Oper} {rest : List Oper} {op : Oper} {a : Act} {w : World} {Q : Exit → Act → World → Prop} {x : Operand} {b : Nat} (e : Ev) (hgd : op.guard = none) (ho : op.op = .load 67 x)
    (hx : a.eval x = .pointer (some ⟨b, 0, none⟩)) {T : TypeId} (hc : Ob w b T e) (h : wpList Tryz.prog ops Q rest (a.put op.dst (.agg e.arr)) w) : wpList Tryz.prog ops Q (op :: rest) a w :=
  wpList_load_mid hgd 67 x ho b 0 hx e.list _ hc.range Tryz.underlying67 rfl (infoEc e) h
/-- A whole entry goes into a block; the world behind it has no other name. -/
theorem storeR {ops : Array Oper} {rest : List Oper} {op : Oper} {a : Act} {w : World} {Q : Exit → Act → World → Prop} {x y : Operand} {b : Nat} {T : TypeId} (e : Ev) (hgd : op.guard = none) (ho : op.op = .store 78 x y)
    (hx : a.eval x = .pointer (some ⟨b, 0, none⟩)) (hy : a.eval y = .agg e.arr) (hC : Room w b T) (h : ∀ W, Ob W b T e → Upd b w W → wpList Tryz.prog ops Q rest (a.put op.dst undef) W) : wpList Tryz.prog ops Q (op :: rest) a w := by
  obtain ⟨C, hC, hs⟩ := hC
  exact wpList_store_mid hgd 78 x y ho b 0 e.arr hx hy (thereOf hC (by rw [hs]; exact Nat.le_refl _)) (infoE' e) (Ev.one e) (h _ (setsOb e hC hs) (setsUpd w b _))
theorem storeC {ops : Array Oper} {rest : List Oper} {op : Oper} {a : Act} {w : World} {Q : Exit → Act → World → Prop} {x y : Operand} {b : Nat} {T : TypeId} (e : Ev) (hgd : op.guard = none) (ho : op.op = .store 67 x y)
    (hx : a.eval x = .pointer (some ⟨b, 0, none⟩)) (hy : a.eval y = .agg e.arr) (hC : Room w b T) (h : ∀ W, Ob W b T e → Upd b w W → wpList Tryz.prog ops Q rest (a.put op.dst undef) W) : wpList Tryz.prog ops Q (op :: rest) a w := by
  obtain ⟨C, hC, hs⟩ := hC
  exact wpList_store_mid hgd 67 x y ho b 0 e.arr hx hy (thereOf hC (by rw [hs]; exact Nat.le_refl _)) (infoEc' e) (Ev.one e) (h _ (setsOb e hC hs) (setsUpd w b _))
/-- The same where the walk has run half of the store. -/
theorem uponStore {op : Oper} {a : Act} {w : World} {K : Act → World → Prop} {Q : Exit → Act → World → Prop} {q : Nat} {T : TypeId} {e : Ev} (hC : Room w q T) (h : ∀ W, Ob W q T e → Upd q w W → K (a.put op.dst undef) W) :
    Oper.upon Tryz.prog op a K Q ((Sem.run Tryz.prog (storeCells ⟨q, 0, none⟩ e.arr.toList) w).andThen fun _ w' => Result.ok Next.skip w') := by
  obtain ⟨C, hC, hs⟩ := hC
  have ht : w.there q 0 19 := thereOf hC (by rw [hs]; exact Nat.le_refl _)
  have hl : e.arr.toList.length = 19 := by rw [Ev.toList]; rfl
  have hr : Sem.run Tryz.prog (storeCells ⟨q, 0, none⟩ e.arr.toList) w = .ok () (w.setCells q 0 e.arr.toList) :=
    run_storeCells_cells (P := Tryz.prog) q 0 e.arr.toList 0 w (fun j hj => (ht j (by omega)).1) (fun j hj => (ht j (by omega)).2) (fun v hv => (Array.all_eq_true_iff_forall_mem.1 (Ev.one e)) v (by simpa using hv))
  rw [hr]
  exact h _ (setsOb e hC hs) (setsUpd w q _)
/-- The world loses its make. -/
theorem opaqueW {P : Program} {ops : Array Oper} {l : List Oper} {a : Act} {Q : Exit → Act → World → Prop} (w : World) (h : ∀ W, W = w → wpList P ops Q l a W) : wpList P ops Q l a w := h w rfl
abbrev zeroEc : Obj := .cells #[.int .i64 0, .int .i64 0, .int .i64 0, .int .i64 0, .int .i64 0, .int .i64 0, .int .i64 0, .int .i64 0, .int .i64 0, .int .i64 0, .int .i64 0, .slice none 0 0, .int .i64 0, .int .i64 0, .slice none 0 0, .bool false, .bool false, .int .i64 0, .slice none 0 0] 67
abbrev zE : Ev := ⟨⟨0, 0, 0, 0, 0, 0, 0⟩, 0, 0, 0, 0, ⟨none, 0, 0⟩, 0, 0, ⟨none, 0, 0⟩, false, false, 0, ⟨none, 0, 0⟩⟩
theorem obAlloc {k : Nat} {o x : Obj} {W : World} (h : W.heap[k]? = some o) : (W.alloc x).heap[k]? = some o := (Below.heap_alloc _ _ _ (Array.getElem?_eq_some_iff.1 h).1).trans h
theorem obDrew {k : Nat} {o : Obj} {W : World} (h : W.heap[k]? = some o) : W.drew.heap[k]? = some o := h
theorem belowDrew {B : Nat} {w W : World} (h : Below B w W) : Below B w W.drew := ⟨h.1, h.2, h.3, h.4, h.5⟩
theorem laid1_0 (w : World) (o0 : Obj) : (w.alloc o0).heap[w.heap.size]? = some o0 := by
  have h0 : (w.alloc o0).heap[w.heap.size]? = some o0 := (heap_alloc_new w o0)
  exact h0
theorem laid1_b (w : World) (o0 : Obj) : Below w.heap.size w (w.alloc o0) := ((Below.refl w.heap.size w).alloc (Nat.le_refl _) o0)
theorem laid2_0 (w : World) (o0 o1 : Obj) : ((w.alloc o0).alloc o1).heap[w.heap.size]? = some o0 := by
  have h0 : (w.alloc o0).heap[w.heap.size]? = some o0 := (heap_alloc_new w o0)
  have ho1 : ((w.alloc o0).alloc o1).heap[w.heap.size]? = some o0 := (Below.heap_alloc _ _ _ (by simp; try omega)).trans h0
  exact ho1
theorem laid2_1 (w : World) (o0 o1 : Obj) : ((w.alloc o0).alloc o1).heap[w.heap.size + 1]? = some o1 := by
  have h1 : ((w.alloc o0).alloc o1).heap[w.heap.size + 1]? = some o1 := (by have := heap_alloc_new (w.alloc o0) o1; simpa [Nat.add_assoc] using this)
  exact h1
theorem laid2_b (w : World) (o0 o1 : Obj) : Below w.heap.size w ((w.alloc o0).alloc o1) := (((Below.refl w.heap.size w).alloc (Nat.le_refl _) o0).alloc (by simp; try omega) o1)
theorem laid3_0 (w : World) (o0 o1 o2 : Obj) : (((w.alloc o0).alloc o1).alloc o2).heap[w.heap.size]? = some o0 := by
  have h0 : (w.alloc o0).heap[w.heap.size]? = some o0 := (heap_alloc_new w o0)
  have ho1 : ((w.alloc o0).alloc o1).heap[w.heap.size]? = some o0 := (Below.heap_alloc _ _ _ (by simp; try omega)).trans h0
  have ho2 : (((w.alloc o0).alloc o1).alloc o2).heap[w.heap.size]? = some o0 := (Below.heap_alloc _ _ _ (by simp; try omega)).trans ho1
  exact ho2
theorem laid3_1 (w : World) (o0 o1 o2 : Obj) : (((w.alloc o0).alloc o1).alloc o2).heap[w.heap.size + 1]? = some o1 := by
  have h1 : ((w.alloc o0).alloc o1).heap[w.heap.size + 1]? = some o1 := (by have := heap_alloc_new (w.alloc o0) o1; simpa [Nat.add_assoc] using this)
  have ho2 : (((w.alloc o0).alloc o1).alloc o2).heap[w.heap.size + 1]? = some o1 := (Below.heap_alloc _ _ _ (by simp; try omega)).trans h1
  exact ho2
theorem laid3_2 (w : World) (o0 o1 o2 : Obj) : (((w.alloc o0).alloc o1).alloc o2).heap[w.heap.size + 2]? = some o2 := by
  have h2 : (((w.alloc o0).alloc o1).alloc o2).heap[w.heap.size + 2]? = some o2 := (by have := heap_alloc_new ((w.alloc o0).alloc o1) o2; simpa [Nat.add_assoc] using this)
  exact h2
theorem laid3_b (w : World) (o0 o1 o2 : Obj) : Below w.heap.size w (((w.alloc o0).alloc o1).alloc o2) := ((((Below.refl w.heap.size w).alloc (Nat.le_refl _) o0).alloc (by simp; try omega) o1).alloc (by simp; try omega) o2)
theorem laid4_0 (w : World) (o0 o1 o2 o3 : Obj) : ((((w.alloc o0).alloc o1).alloc o2).alloc o3).heap[w.heap.size]? = some o0 := by
  have h0 : (w.alloc o0).heap[w.heap.size]? = some o0 := (heap_alloc_new w o0)
  have ho1 : ((w.alloc o0).alloc o1).heap[w.heap.size]? = some o0 := (Below.heap_alloc _ _ _ (by simp; try omega)).trans h0
  have ho2 : (((w.alloc o0).alloc o1).alloc o2).heap[w.heap.size]? = some o0 := (Below.heap_alloc _ _ _ (by simp; try omega)).trans ho1
  have ho3 : ((((w.alloc o0).alloc o1).alloc o2).alloc o3).heap[w.heap.size]? = some o0 := (Below.heap_alloc _ _ _ (by simp; try omega)).trans ho2
  exact ho3
theorem laid4_1 (w : World) (o0 o1 o2 o3 : Obj) : ((((w.alloc o0).alloc o1).alloc o2).alloc o3).heap[w.heap.size + 1]? = some o1 := by
  have h1 : ((w.alloc o0).alloc o1).heap[w.heap.size + 1]? = some o1 := (by have := heap_alloc_new (w.alloc o0) o1; simpa [Nat.add_assoc] using this)
  have ho2 : (((w.alloc o0).alloc o1).alloc o2).heap[w.heap.size + 1]? = some o1 := (Below.heap_alloc _ _ _ (by simp; try omega)).trans h1
  have ho3 : ((((w.alloc o0).alloc o1).alloc o2).alloc o3).heap[w.heap.size + 1]? = some o1 := (Below.heap_alloc _ _ _ (by simp; try omega)).trans ho2
  exact ho3
theorem laid4_2 (w : World) (o0 o1 o2 o3 : Obj) : ((((w.alloc o0).alloc o1).alloc o2).alloc o3).heap[w.heap.size + 2]? = some o2 := by
  have h2 : (((w.alloc o0).alloc o1).alloc o2).heap[w.heap.size + 2]? = some o2 := (by have := heap_alloc_new ((w.alloc o0).alloc o1) o2; simpa [Nat.add_assoc] using this)
  have ho3 : ((((w.alloc o0).alloc o1).alloc o2).alloc o3).heap[w.heap.size + 2]? = some o2 := (Below.heap_alloc _ _ _ (by simp; try omega)).trans h2
  exact ho3
theorem laid4_3 (w : World) (o0 o1 o2 o3 : Obj) : ((((w.alloc o0).alloc o1).alloc o2).alloc o3).heap[w.heap.size + 3]? = some o3 := by
  have h3 : ((((w.alloc o0).alloc o1).alloc o2).alloc o3).heap[w.heap.size + 3]? = some o3 := (by have := heap_alloc_new (((w.alloc o0).alloc o1).alloc o2) o3; simpa [Nat.add_assoc] using this)
  exact h3
theorem laid4_b (w : World) (o0 o1 o2 o3 : Obj) : Below w.heap.size w ((((w.alloc o0).alloc o1).alloc o2).alloc o3) := (((((Below.refl w.heap.size w).alloc (Nat.le_refl _) o0).alloc (by simp; try omega) o1).alloc (by simp; try omega) o2).alloc (by simp; try omega) o3)
end Go.Proofs.YtlehcaacfgocaaaGreat
/- The program's reader: Read, Rest, Err, fine, fail; the library's Clone of bytes. -/
namespace Go.Proofs.YtlehcaacfgocaaaGreat
set_option linter.unusedVariables false
open Go.RowKit
open Go.Lib (hid)

theorem SlB.src {w : World} {v : Value} {l : List UInt8} (h : SlB w v l) :
    (v = .slice none 0 0 ∧ l = []) ∨ ∃ ad cap, v = .slice (Option.some ad) l.length cap ∧ (∀ (j : Nat) u, (octs l)[j]? = Option.some u → w.cell? (ad.add j) = Option.some u) ∧ (0 < l.length → ad.block < w.heap.size) := by
  obtain ⟨b, o, cap, a, rfl, hn, hcap, ha, hc, hl⟩ := h
  rcases a with _ | ad
  · have h0 : l.length = 0 := by have := hn rfl; omega
    exact .inl ⟨by rw [hn rfl, h0], List.length_eq_zero_iff.1 h0⟩
  · refine .inr ⟨ad, cap, rfl, fun j u hu => ?_, fun h0 => by obtain rfl := Option.some.inj (ha h0); exact hl h0⟩
    simp only [octs, List.getElem?_map, Option.map_eq_some_iff] at hu
    obtain ⟨x, hx, rfl⟩ := hu
    have h0 : 0 < l.length := by have := (List.getElem?_eq_some_iff.1 hx).1; omega
    obtain rfl := Option.some.inj (ha h0)
    rw [show (⟨b, o, none⟩ : Addr).add j = ⟨b, o + j, none⟩ from by unfold Addr.add; split <;> simp_all]
    exact hc j x hx
theorem OwnB.made (w : World) : OwnB (w.alloc (.cells #[] 5)) w.heap.size (.slice (Option.some ⟨w.heap.size, 0, none⟩) 0 0) [] :=
  World.ownsRow_made w #[] 0 (Nat.le_refl _) (by unfold maxLen; omega) rfl

abbrev ptr (p : Nat) : Value := .pointer (some ⟨p, 0, none⟩)

end Go.Proofs.YtlehcaacfgocaaaGreat
