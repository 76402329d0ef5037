import Derived.Test.YtogoibigabpkhaaGreatG07
import Derived.Deep.CutRange
/- Entries by value: the law's Of; the document's Same and Right. -/

namespace Go.Proofs.YtogoibigabpkhaaGreat
set_option linter.unusedVariables false
open Go.RowKit
open Go.Lib (hid)

theorem box2_heap (w : World) (e : Ev) (T : TypeId) (o : Obj) : ((w.alloc (.cells e.arr T)).alloc o).heap[w.heap.size]? = some (.cells e.arr T) := (Below.heap_alloc _ _ _ (by simp)).trans (heap_alloc_new w _)
theorem box2_heap' (w : World) (e : Ev) (T : TypeId) (o : Obj) : ((w.alloc o).alloc (.cells e.arr T)).heap[w.heap.size + 1]? = some (.cells e.arr T) := by have := heap_alloc_new (w.alloc o) (.cells e.arr T); simpa using this
theorem ret_cell1 {P : Program} {fn : Func} {a : Act} {w : World} {p : Tmp} {ty : TypeId} {b o : Nat} {cs : List Value} {d : TypeDesc} (h : fn.results = #[.cell p ty]) (hp : a.tmps.getD p undef = .pointer (some ⟨b, o, none⟩))
    (hc : w.rangeAt b o cs) (ht : P.underlying ty = some d) (hd : d.isRow = true) (hi : (P.info? ty).map (·.size) = some cs.length) : (results fn a.tmps).run P w = .ok (.agg cs.toArray) w := by
  simp only [results, h]
  have h1 := run_loadVar_mid w b o ty cs d hc ht hd hi
  simp only [Array.getD_eq_getD_getElem?] at hp
  simp [hp, asAddr, h1]

set_option maxHeartbeats 1600000 in
set_option maxRecDepth 100000 in
theorem cOf (e : Ev) (w : World) : Calls Tryz.prog 34 #[.agg e.arr] w fun x w' => x = .returned (.agg e.arr) ∧ Below w.heap.size w w' := by
  have hh := box2_heap w e 44 zeroE
  have c0 : ((w.alloc (.cells e.arr 44)).alloc zeroE).cell? ⟨w.heap.size, 0, none⟩ = some (.int .i64 e.c.i) := (cellAt' hh 0).trans rfl
  have c1 : ((w.alloc (.cells e.arr 44)).alloc zeroE).cell? ⟨w.heap.size, 1, none⟩ = some (.int .i64 e.c.k) := (cellAt' hh 1).trans rfl
  have c2 : ((w.alloc (.cells e.arr 44)).alloc zeroE).cell? ⟨w.heap.size, 2, none⟩ = some (.int .i64 e.c.s) := (cellAt' hh 2).trans rfl
  have c3 : ((w.alloc (.cells e.arr 44)).alloc zeroE).cell? ⟨w.heap.size, 3, none⟩ = some (.int .i64 e.c.t) := (cellAt' hh 3).trans rfl
  have c4 : ((w.alloc (.cells e.arr 44)).alloc zeroE).cell? ⟨w.heap.size, 4, none⟩ = some (.int .i64 e.c.d) := (cellAt' hh 4).trans rfl
  have c5 : ((w.alloc (.cells e.arr 44)).alloc zeroE).cell? ⟨w.heap.size, 5, none⟩ = some (.int .i64 e.c.p) := (cellAt' hh 5).trans rfl
  have c6 : ((w.alloc (.cells e.arr 44)).alloc zeroE).cell? ⟨w.heap.size, 6, none⟩ = some (.int .i64 e.c.q) := (cellAt' hh 6).trans rfl
  have c7 : ((w.alloc (.cells e.arr 44)).alloc zeroE).cell? ⟨w.heap.size, 7, none⟩ = some (.int .i64 e.pr) := (cellAt' hh 7).trans rfl
  have c8 : ((w.alloc (.cells e.arr 44)).alloc zeroE).cell? ⟨w.heap.size, 8, none⟩ = some (.int .i64 e.lo) := (cellAt' hh 8).trans rfl
  have c9 : ((w.alloc (.cells e.arr 44)).alloc zeroE).cell? ⟨w.heap.size, 9, none⟩ = some (.int .i64 e.hi) := (cellAt' hh 9).trans rfl
  have c10 : ((w.alloc (.cells e.arr 44)).alloc zeroE).cell? ⟨w.heap.size, 10, none⟩ = some (.int .i64 e.ft) := (cellAt' hh 10).trans rfl
  have c11 : ((w.alloc (.cells e.arr 44)).alloc zeroE).cell? ⟨w.heap.size, 11, none⟩ = some (.slice e.fp.a e.fp.n e.fp.c) := (cellAt' hh 11).trans rfl
  have c12 : ((w.alloc (.cells e.arr 44)).alloc zeroE).cell? ⟨w.heap.size, 12, none⟩ = some (.int .i64 e.ab) := (cellAt' hh 12).trans rfl
  have c13 : ((w.alloc (.cells e.arr 44)).alloc zeroE).cell? ⟨w.heap.size, 13, none⟩ = some (.int .i64 e.xt) := (cellAt' hh 13).trans rfl
  have c14 : ((w.alloc (.cells e.arr 44)).alloc zeroE).cell? ⟨w.heap.size, 14, none⟩ = some (.slice e.xp.a e.xp.n e.xp.c) := (cellAt' hh 14).trans rfl
  have c15 : ((w.alloc (.cells e.arr 44)).alloc zeroE).cell? ⟨w.heap.size, 15, none⟩ = some (.bool e.fr) := (cellAt' hh 15).trans rfl
  have c16 : ((w.alloc (.cells e.arr 44)).alloc zeroE).cell? ⟨w.heap.size, 16, none⟩ = some (.bool e.dn) := (cellAt' hh 16).trans rfl
  have c17 : ((w.alloc (.cells e.arr 44)).alloc zeroE).cell? ⟨w.heap.size, 17, none⟩ = some (.int .i64 e.vt) := (cellAt' hh 17).trans rfl
  have c18 : ((w.alloc (.cells e.arr 44)).alloc zeroE).cell? ⟨w.heap.size, 18, none⟩ = some (.slice e.vp.a e.vp.n e.vp.c) := (cellAt' hh 18).trans rfl
  have ht : ((w.alloc (.cells e.arr 44)).alloc zeroE).there (w.heap.size + 1) 0 19 := by
    have := thereNew (w.alloc (.cells e.arr 44)) (match zeroE with | .cells C _ _ => C | _ => #[]) 74 19 (by decide)
    rwa [World.size_alloc] at this
  have hb : Below w.heap.size w ((w.alloc (.cells e.arr 44)).alloc zeroE) := ((Below.refl _ w).alloc (Nat.le_refl _) _).alloc (by simp) _
  clear hh
  go_enter Tryz.func34, Tryz.ntmps34
  go_wp2_with (refine wpList_store_mid rfl 74 _ _ rfl _ _ e.arr rfl rfl ht (infoE' e) (Ev.one e) ?_)
  refine bodyPost_ret (ret_cell1 rfl rfl (setsE ht) Tryz.underlying74 rfl (infoE e)) rfl ⟨rfl, ?_⟩
  exact below_cells (by omega) _ _ _ hb

def sameE (e : Ev) (f a v : List C7) (e' : Ev) (f' a' v' : List C7) : Bool :=
  (decide (e.ft = e'.ft) && sameB f f') && (decide (e.xt = e'.xt) && sameB a a') && (decide (e.vt = e'.vt) && sameB v v') && e.c.same e'.c && decide (e.pr = e'.pr) && decide (e.lo = e'.lo) && decide (e.hi = e'.hi) && decide (e.ab = e'.ab) && decide (e.fr = e'.fr) && decide (e.dn = e'.dn)

set_option maxHeartbeats 4000000 in
set_option maxRecDepth 100000 in
theorem rSameE {e e' : Ev} {f f' a a' v v' : List C7} {w : World} (hf : Sl w e.fp.v f) (hf' : Sl w e'.fp.v f') (ha : Sl w e.xp.v a) (ha' : Sl w e'.xp.v a') (hv : Sl w e.vp.v v) (hv' : Sl w e'.vp.v v')
    (lf : f.length ≤ 100000) (lf' : f'.length ≤ 100000) (la : a.length ≤ 100000) (la' : a'.length ≤ 100000) (lv : v.length ≤ 100000) (lv' : v'.length ≤ 100000) :
    Calls Tryz.prog 40 #[.agg e.arr, .agg e'.arr] w fun x w' => x = .returned (.bool (sameE e f a v e' f' a' v')) ∧ Below w.heap.size w w' := by
  obtain ⟨b1, hb1⟩ : ∃ b, b = (decide (e.ft = e'.ft) && sameB f f') := ⟨_, rfl⟩
  obtain ⟨b2, hb2⟩ : ∃ b, b = (decide (e.xt = e'.xt) && sameB a a') := ⟨_, rfl⟩
  obtain ⟨b3, hb3⟩ : ∃ b, b = (decide (e.vt = e'.vt) && sameB v v') := ⟨_, rfl⟩
  obtain ⟨b4, hb4⟩ : ∃ b, b = e.c.same e'.c := ⟨_, rfl⟩
  have HE := hid (show sameE e f a v e' f' a' v' = (b1 && b2 && b3 && b4 && decide (e.pr = e'.pr) && decide (e.lo = e'.lo) && decide (e.hi = e'.hi) && decide (e.ab = e'.ab) && decide (e.fr = e'.fr) && decide (e.dn = e'.dn)) by rw [hb1, hb2, hb3, hb4]; rfl)
  have hE := eqlC hb4.symm
  have hG := fun op p q W => guardC op p q e.c e'.c W
  have hS1 := fun (W : World) (hB : Below w.heap.size w W) => rSameVG e.ft e'.ft (hf.on hB) (hf'.on hB) lf lf'
  have hS2 := fun (W : World) (hB : Below w.heap.size w W) => rSameVG e.xt e'.xt (ha.on hB) (ha'.on hB) la la'
  have hS3 := fun (W : World) (hB : Below w.heap.size w W) => rSameVG e.vt e'.vt (hv.on hB) (hv'.on hB) lv lv'
  rw [← hb1] at hS1
  rw [← hb2] at hS2
  rw [← hb3] at hS3
  clear hb1 hb2 hb3 hb4 hf hf' ha ha' hv hv'
  have HX : Hid (((w.alloc (.cells e.arr 74)).alloc (.cells e'.arr 74)).heap[w.heap.size]? = some (.cells e.arr 74)) := hid (box2_heap w e 74 _)
  have HY : Hid (((w.alloc (.cells e.arr 74)).alloc (.cells e'.arr 74)).heap[w.heap.size + 1]? = some (.cells e'.arr 74)) := hid (box2_heap' w e' 74 _)
  have HW : Hid (Below w.heap.size w ((w.alloc (.cells e.arr 74)).alloc (.cells e'.arr 74))) := hid (((Below.refl _ w).alloc (Nat.le_refl _) _).alloc (by simp) _)
  have hx := HX.out
  have hy := HY.out
  have c10 : ((w.alloc (.cells e.arr 74)).alloc (.cells e'.arr 74)).cell? ⟨w.heap.size, 10, none⟩ = some (.int .i64 e.ft) := (cellAt' hx 10).trans rfl
  have d10 : ((w.alloc (.cells e.arr 74)).alloc (.cells e'.arr 74)).cell? ⟨w.heap.size + 1, 10, none⟩ = some (.int .i64 e'.ft) := (cellAt' hy 10).trans rfl
  have c11 : ((w.alloc (.cells e.arr 74)).alloc (.cells e'.arr 74)).cell? ⟨w.heap.size, 11, none⟩ = some (.slice e.fp.a e.fp.n e.fp.c) := (cellAt' hx 11).trans rfl
  have d11 : ((w.alloc (.cells e.arr 74)).alloc (.cells e'.arr 74)).cell? ⟨w.heap.size + 1, 11, none⟩ = some (.slice e'.fp.a e'.fp.n e'.fp.c) := (cellAt' hy 11).trans rfl
  clear hx hy
  go_enter Tryz.func40, Tryz.ntmps40
  go_wp2_with fail
  go_at_call 78
  refine (hS1 _ HW.out).mono ?_
  rintro x w1 ⟨rfl, hB⟩
  replace HX := hid (heapB HX.out hB (Array.getElem?_eq_some_iff.1 HX.out).1)
  replace HY := hid (heapB HY.out hB (Array.getElem?_eq_some_iff.1 HY.out).1)
  replace HW := hid (HW.out.trans (hB.mono HW.out.size))
  clear hB
  have hx := HX.out
  have hy := HY.out
  clear c10 c11 d10 d11
  have c13 : w1.cell? ⟨w.heap.size, 13, none⟩ = some (.int .i64 e.xt) := (cellAt' hx 13).trans rfl
  have d13 : w1.cell? ⟨w.heap.size + 1, 13, none⟩ = some (.int .i64 e'.xt) := (cellAt' hy 13).trans rfl
  have c14 : w1.cell? ⟨w.heap.size, 14, none⟩ = some (.slice e.xp.a e.xp.n e.xp.c) := (cellAt' hx 14).trans rfl
  have d14 : w1.cell? ⟨w.heap.size + 1, 14, none⟩ = some (.slice e'.xp.a e'.xp.n e'.xp.c) := (cellAt' hy 14).trans rfl
  clear hx hy
  go_wp2_with fail
  go_at_call 78
  refine (hS2 _ HW.out).mono ?_
  rintro x w2 ⟨rfl, hB⟩
  replace HX := hid (heapB HX.out hB (Array.getElem?_eq_some_iff.1 HX.out).1)
  replace HY := hid (heapB HY.out hB (Array.getElem?_eq_some_iff.1 HY.out).1)
  replace HW := hid (HW.out.trans (hB.mono HW.out.size))
  clear hB
  have hx := HX.out
  have hy := HY.out
  clear c13 c14 d13 d14
  have c17 : w2.cell? ⟨w.heap.size, 17, none⟩ = some (.int .i64 e.vt) := (cellAt' hx 17).trans rfl
  have d17 : w2.cell? ⟨w.heap.size + 1, 17, none⟩ = some (.int .i64 e'.vt) := (cellAt' hy 17).trans rfl
  have c18 : w2.cell? ⟨w.heap.size, 18, none⟩ = some (.slice e.vp.a e.vp.n e.vp.c) := (cellAt' hx 18).trans rfl
  have d18 : w2.cell? ⟨w.heap.size + 1, 18, none⟩ = some (.slice e'.vp.a e'.vp.n e'.vp.c) := (cellAt' hy 18).trans rfl
  clear hx hy
  go_wp2_with fail
  go_at_call 78
  refine (hS3 _ HW.out).mono ?_
  rintro x w3 ⟨rfl, hB⟩
  replace HX := hid (heapB HX.out hB (Array.getElem?_eq_some_iff.1 HX.out).1)
  replace HY := hid (heapB HY.out hB (Array.getElem?_eq_some_iff.1 HY.out).1)
  replace HW := hid (HW.out.trans (hB.mono HW.out.size))
  clear hB
  have hx := HX.out
  have hy := HY.out
  clear c17 c18 d17 d18
  have c0 : w3.cell? ⟨w.heap.size, 0, none⟩ = some (.int .i64 e.c.i) := (cellAt' hx 0).trans rfl
  have d0 : w3.cell? ⟨w.heap.size + 1, 0, none⟩ = some (.int .i64 e'.c.i) := (cellAt' hy 0).trans rfl
  have c1 : w3.cell? ⟨w.heap.size, 1, none⟩ = some (.int .i64 e.c.k) := (cellAt' hx 1).trans rfl
  have d1 : w3.cell? ⟨w.heap.size + 1, 1, none⟩ = some (.int .i64 e'.c.k) := (cellAt' hy 1).trans rfl
  have c2 : w3.cell? ⟨w.heap.size, 2, none⟩ = some (.int .i64 e.c.s) := (cellAt' hx 2).trans rfl
  have d2 : w3.cell? ⟨w.heap.size + 1, 2, none⟩ = some (.int .i64 e'.c.s) := (cellAt' hy 2).trans rfl
  have c3 : w3.cell? ⟨w.heap.size, 3, none⟩ = some (.int .i64 e.c.t) := (cellAt' hx 3).trans rfl
  have d3 : w3.cell? ⟨w.heap.size + 1, 3, none⟩ = some (.int .i64 e'.c.t) := (cellAt' hy 3).trans rfl
  have c4 : w3.cell? ⟨w.heap.size, 4, none⟩ = some (.int .i64 e.c.d) := (cellAt' hx 4).trans rfl
  have d4 : w3.cell? ⟨w.heap.size + 1, 4, none⟩ = some (.int .i64 e'.c.d) := (cellAt' hy 4).trans rfl
  have c5 : w3.cell? ⟨w.heap.size, 5, none⟩ = some (.int .i64 e.c.p) := (cellAt' hx 5).trans rfl
  have d5 : w3.cell? ⟨w.heap.size + 1, 5, none⟩ = some (.int .i64 e'.c.p) := (cellAt' hy 5).trans rfl
  have c6 : w3.cell? ⟨w.heap.size, 6, none⟩ = some (.int .i64 e.c.q) := (cellAt' hx 6).trans rfl
  have d6 : w3.cell? ⟨w.heap.size + 1, 6, none⟩ = some (.int .i64 e'.c.q) := (cellAt' hy 6).trans rfl
  have c7 : w3.cell? ⟨w.heap.size, 7, none⟩ = some (.int .i64 e.pr) := (cellAt' hx 7).trans rfl
  have d7 : w3.cell? ⟨w.heap.size + 1, 7, none⟩ = some (.int .i64 e'.pr) := (cellAt' hy 7).trans rfl
  have c8 : w3.cell? ⟨w.heap.size, 8, none⟩ = some (.int .i64 e.lo) := (cellAt' hx 8).trans rfl
  have d8 : w3.cell? ⟨w.heap.size + 1, 8, none⟩ = some (.int .i64 e'.lo) := (cellAt' hy 8).trans rfl
  have c9 : w3.cell? ⟨w.heap.size, 9, none⟩ = some (.int .i64 e.hi) := (cellAt' hx 9).trans rfl
  have d9 : w3.cell? ⟨w.heap.size + 1, 9, none⟩ = some (.int .i64 e'.hi) := (cellAt' hy 9).trans rfl
  have c12 : w3.cell? ⟨w.heap.size, 12, none⟩ = some (.int .i64 e.ab) := (cellAt' hx 12).trans rfl
  have d12 : w3.cell? ⟨w.heap.size + 1, 12, none⟩ = some (.int .i64 e'.ab) := (cellAt' hy 12).trans rfl
  have c15 : w3.cell? ⟨w.heap.size, 15, none⟩ = some (.bool e.fr) := (cellAt' hx 15).trans rfl
  have d15 : w3.cell? ⟨w.heap.size + 1, 15, none⟩ = some (.bool e'.fr) := (cellAt' hy 15).trans rfl
  have c16 : w3.cell? ⟨w.heap.size, 16, none⟩ = some (.bool e.dn) := (cellAt' hx 16).trans rfl
  have d16 : w3.cell? ⟨w.heap.size + 1, 16, none⟩ = some (.bool e'.dn) := (cellAt' hy 16).trans rfl
  clear hx hy
  go_wp2
  all_goals (
    go_ret
    exact ⟨ret_bool (by rw [HE.out]; first | (simp_all; done) | (simp_all; generalize e.dn = x; generalize e'.dn = y; cases x <;> cases y <;> rfl)), HW.out⟩)
end Go.Proofs.YtogoibigabpkhaaGreat
/- Entries by value: the document's Right. -/
namespace Go.Proofs.YtogoibigabpkhaaGreat
set_option linter.unusedVariables false
open Go.RowKit
open Go.Lib (hid)

def timesB (lo hi : Int) : Bool := (decide (lo = 0) && decide (hi = 0)) || (validB lo && validB hi && decide (lo ≤ hi))
def rightE (e : Ev) (f a v : List C7) : Bool := e.c.ok && withinB e.pr 1048576 && timesB e.lo e.hi && mustB e.ft f (!decide (e.ft = 0)) && withinB e.ab 1048576 && mustB e.xt a (!decide (e.ab = 0)) && mustB e.vt v e.dn

set_option maxHeartbeats 4000000 in
set_option maxRecDepth 100000 in
theorem rRightE {e : Ev} {f a v : List C7} {w : World} (hf : Sl w e.fp.v f) (ha : Sl w e.xp.v a) (hv : Sl w e.vp.v v) (lf : f.length ≤ 1024) (la : a.length ≤ 1024) (lv : v.length ≤ 1024) :
    Calls Tryz.prog 30 #[.agg e.arr] w fun x w' => x = .returned (.bool (rightE e f a v)) ∧ Below w.heap.size w w' := by
  obtain ⟨b1, hb1⟩ : ∃ b, b = e.c.ok := ⟨_, rfl⟩
  obtain ⟨b2, hb2⟩ : ∃ b, b = withinB e.pr 1048576 := ⟨_, rfl⟩
  obtain ⟨b3, hb3⟩ : ∃ b, b = validB e.lo := ⟨_, rfl⟩
  obtain ⟨b4, hb4⟩ : ∃ b, b = validB e.hi := ⟨_, rfl⟩
  obtain ⟨b5, hb5⟩ : ∃ b, b = mustB e.ft f (!decide (e.ft = 0)) := ⟨_, rfl⟩
  obtain ⟨b6, hb6⟩ : ∃ b, b = withinB e.ab 1048576 := ⟨_, rfl⟩
  obtain ⟨b7, hb7⟩ : ∃ b, b = mustB e.xt a (!decide (e.ab = 0)) := ⟨_, rfl⟩
  obtain ⟨b8, hb8⟩ : ∃ b, b = mustB e.vt v e.dn := ⟨_, rfl⟩
  have HE := hid (show rightE e f a v = (b1 && b2 && ((decide (e.lo = 0) && decide (e.hi = 0)) || (b3 && b4 && decide (e.lo ≤ e.hi))) && b5 && b6 && b7 && b8) by rw [hb1, hb2, hb3, hb4, hb5, hb6, hb7, hb8]; rfl)
  have hO : ∀ W, Calls Tryz.prog 69 #[.agg #[.int .i64 e.c.i, .int .i64 e.c.k, .int .i64 e.c.s, .int .i64 e.c.t, .int .i64 e.c.d, .int .i64 e.c.p, .int .i64 e.c.q]] W fun x w' => x = .returned (.bool e.c.ok) ∧ Below W.heap.size W w' := fun W => rOne e.c.i e.c.k e.c.s e.c.t e.c.d e.c.p e.c.q W
  have hV1 := fun W => rValid e.lo W
  have hV2 := fun W => rValid e.hi W
  have hM1 := fun (W : World) (is : Bool) (hi : is = !decide (e.ft = 0)) (hB : Below w.heap.size w W) => (show Calls Tryz.prog 71 #[.agg #[.int .i64 e.ft, e.fp.v], .bool is] W fun x w' => x = .returned (.bool (mustB e.ft f (!decide (e.ft = 0)))) ∧ Below W.heap.size W w' from hi ▸ rMust e.ft is (hf.on hB) lf)
  have hM2 := fun (W : World) (is : Bool) (hi : is = !decide (e.ab = 0)) (hB : Below w.heap.size w W) => (show Calls Tryz.prog 71 #[.agg #[.int .i64 e.xt, e.xp.v], .bool is] W fun x w' => x = .returned (.bool (mustB e.xt a (!decide (e.ab = 0)))) ∧ Below W.heap.size W w' from hi ▸ rMust e.xt is (ha.on hB) la)
  have hM3 := fun (W : World) (hB : Below w.heap.size w W) => rMust e.vt e.dn (hv.on hB) lv
  have hP1 := fun W => rBallot e.pr W
  have hP2 := fun W => rBallot e.ab W
  rw [← hb1] at hO
  rw [← hb3] at hV1
  rw [← hb4] at hV2
  rw [← hb5] at hM1
  rw [← hb7] at hM2
  rw [← hb8] at hM3
  rw [← hb2] at hP1
  rw [← hb6] at hP2
  clear hb1 hb2 hb3 hb4 hb5 hb6 hb7 hb8 hf ha hv
  have HX : Hid ((w.alloc (.cells e.arr 74)).heap[w.heap.size]? = some (.cells e.arr 74)) := hid (heap_alloc_new w _)
  have HW : Hid (Below w.heap.size w (w.alloc (.cells e.arr 74))) := hid ((Below.refl _ w).alloc (Nat.le_refl _) _)
  have hx := HX.out
  have c0 : (w.alloc (.cells e.arr 74)).cell? ⟨w.heap.size, 0, none⟩ = some (.int .i64 e.c.i) := (cellAt' hx 0).trans rfl
  have c1 : (w.alloc (.cells e.arr 74)).cell? ⟨w.heap.size, 1, none⟩ = some (.int .i64 e.c.k) := (cellAt' hx 1).trans rfl
  have c2 : (w.alloc (.cells e.arr 74)).cell? ⟨w.heap.size, 2, none⟩ = some (.int .i64 e.c.s) := (cellAt' hx 2).trans rfl
  have c3 : (w.alloc (.cells e.arr 74)).cell? ⟨w.heap.size, 3, none⟩ = some (.int .i64 e.c.t) := (cellAt' hx 3).trans rfl
  have c4 : (w.alloc (.cells e.arr 74)).cell? ⟨w.heap.size, 4, none⟩ = some (.int .i64 e.c.d) := (cellAt' hx 4).trans rfl
  have c5 : (w.alloc (.cells e.arr 74)).cell? ⟨w.heap.size, 5, none⟩ = some (.int .i64 e.c.p) := (cellAt' hx 5).trans rfl
  have c6 : (w.alloc (.cells e.arr 74)).cell? ⟨w.heap.size, 6, none⟩ = some (.int .i64 e.c.q) := (cellAt' hx 6).trans rfl
  clear hx
  go_enter Tryz.func30, Tryz.ntmps30
  go_wp2_with fail
  go_at_call 69
  refine (hO _).mono ?_
  rintro x w1 ⟨rfl, hB⟩
  replace HX := hid (heapB HX.out hB (Array.getElem?_eq_some_iff.1 HX.out).1)
  replace HW := hid (HW.out.trans (hB.mono HW.out.size))
  clear hB c0 c1 c2 c3 c4 c5 c6
  have hx := HX.out
  have c8 : w1.cell? ⟨w.heap.size, 8, none⟩ = some (.int .i64 e.lo) := (cellAt' hx 8).trans rfl
  have c9 : w1.cell? ⟨w.heap.size, 9, none⟩ = some (.int .i64 e.hi) := (cellAt' hx 9).trans rfl
  have c10 : w1.cell? ⟨w.heap.size, 10, none⟩ = some (.int .i64 e.ft) := (cellAt' hx 10).trans rfl
  have c11 : w1.cell? ⟨w.heap.size, 11, none⟩ = some (.slice e.fp.a e.fp.n e.fp.c) := (cellAt' hx 11).trans rfl
  clear hx
  go_wp2_with fail
  go_at_call 70
  refine (hV1 _).mono ?_
  rintro x w' ⟨rfl, rfl⟩
  go_wp2_with fail
  go_at_call 70
  refine (hV2 _).mono ?_
  rintro x w' ⟨rfl, rfl⟩
  obtain ⟨b9, hb9⟩ : ∃ b, b = ((decide (e.lo = 0) && decide (e.hi = 0)) || (b3 && b4 && decide (e.lo ≤ e.hi))) := ⟨_, rfl⟩
  rw [← hb9] at HE
  go_upto_region 4 with fail
  go_cut [4, 5, 6] from 10 to 39 (fun _ _ u wx => u = .bool b9 ∧ wx = w1)
  case first =>
    go_wp2_with fail
    all_goals (
      go_meet
      exact ⟨by rw [hb9]; congr 1; first | (simp_all; done) | (simp_all; omega), rfl⟩)
  case rest =>
    obtain ⟨rfl, rfl⟩ := hcut
    clear hb9
    go_wp2_with fail
    go_at_call 71
    refine (hM1 _ _ (by first | rfl | simp) HW.out).mono ?_
    rintro x w2 ⟨rfl, hB⟩
    replace HX := hid (heapB HX.out hB (Array.getElem?_eq_some_iff.1 HX.out).1)
    replace HW := hid (HW.out.trans (hB.mono HW.out.size))
    clear hB c8 c9 c10 c11
    have hx := HX.out
    have c12 : w2.cell? ⟨w.heap.size, 12, none⟩ = some (.int .i64 e.ab) := (cellAt' hx 12).trans rfl
    have c13 : w2.cell? ⟨w.heap.size, 13, none⟩ = some (.int .i64 e.xt) := (cellAt' hx 13).trans rfl
    have c14 : w2.cell? ⟨w.heap.size, 14, none⟩ = some (.slice e.xp.a e.xp.n e.xp.c) := (cellAt' hx 14).trans rfl
    clear hx
    go_wp2_with fail
    go_at_call 71
    refine (hM2 _ _ (by first | rfl | simp) HW.out).mono ?_
    rintro x w3 ⟨rfl, hB⟩
    replace HX := hid (heapB HX.out hB (Array.getElem?_eq_some_iff.1 HX.out).1)
    replace HW := hid (HW.out.trans (hB.mono HW.out.size))
    clear hB c12 c13 c14
    have hx := HX.out
    have c16 : w3.cell? ⟨w.heap.size, 16, none⟩ = some (.bool e.dn) := (cellAt' hx 16).trans rfl
    have c17 : w3.cell? ⟨w.heap.size, 17, none⟩ = some (.int .i64 e.vt) := (cellAt' hx 17).trans rfl
    have c18 : w3.cell? ⟨w.heap.size, 18, none⟩ = some (.slice e.vp.a e.vp.n e.vp.c) := (cellAt' hx 18).trans rfl
    clear hx
    go_wp2_with fail
    go_at_call 71
    refine (hM3 _ HW.out).mono ?_
    rintro x w4 ⟨rfl, hB⟩
    replace HX := hid (heapB HX.out hB (Array.getElem?_eq_some_iff.1 HX.out).1)
    replace HW := hid (HW.out.trans (hB.mono HW.out.size))
    clear hB c16 c17 c18
    have hx := HX.out
    have c7 : w4.cell? ⟨w.heap.size, 7, none⟩ = some (.int .i64 e.pr) := (cellAt' hx 7).trans rfl
    have c12 : w4.cell? ⟨w.heap.size, 12, none⟩ = some (.int .i64 e.ab) := (cellAt' hx 12).trans rfl
    clear hx
    go_wp2_with (first
      | (go_at_call 72; refine (hP1 _).mono ?_; rintro x w' ⟨rfl, rfl⟩)
      | (go_at_call 72; refine (hP2 _).mono ?_; rintro x w' ⟨rfl, rfl⟩))
    all_goals (
      go_ret
      exact ⟨ret_bool (by rw [HE.out]; simp_all), HW.out⟩)
end Go.Proofs.YtogoibigabpkhaaGreat
/- Entries by value: the document's Finish and Vote. -/
namespace Go.Proofs.YtogoibigabpkhaaGreat
set_option linter.unusedVariables false
open Go.RowKit
open Go.Lib (hid)

theorem rangeOf {W : World} {q : Nat} {e : Ev} {T : TypeId} (h : W.heap[q]? = some (.cells e.arr T (0, 0))) : W.rangeAt q 0 e.list := fun j v hv => by
  rw [Nat.zero_add, cellAt' h, ← Ev.toList] at *
  simpa using hv
theorem thereOf {W : World} {q n : Nat} {C : Array Value} {T : TypeId} (h : W.heap[q]? = some (.cells C T (0, 0))) (hn : n ≤ C.size) : W.there q 0 n := fun j hj => by
  rw [Nat.zero_add]
  refine ⟨?_, frozenAt h j⟩
  rw [cellAt' h, Array.getElem?_eq_getElem (by omega)]; rfl
theorem box3_heap (w : World) (a b c : Obj) : (((w.alloc a).alloc b).alloc c).heap[w.heap.size]? = some a ∧ (((w.alloc a).alloc b).alloc c).heap[w.heap.size + 1]? = some b ∧ (((w.alloc a).alloc b).alloc c).heap[w.heap.size + 2]? = some c := by
  refine ⟨(Below.heap_alloc _ _ _ (by simp; omega)).trans ((Below.heap_alloc _ _ _ (by simp)).trans (heap_alloc_new w a)), (Below.heap_alloc _ _ _ (by simp)).trans ?_, ?_⟩
  · have := heap_alloc_new (w.alloc a) b; simpa using this
  · have := heap_alloc_new ((w.alloc a).alloc b) c; simpa [Nat.add_assoc] using this
theorem box3_below (w : World) (a b c : Obj) : Below w.heap.size w (((w.alloc a).alloc b).alloc c) := (((Below.refl _ w).alloc (Nat.le_refl _) _).alloc (by simp) _).alloc (by simp; omega) _

theorem loadE {ops : Array Oper} {rest : List Oper} {op : Oper} {a : Act} {w : World} {Q : Exit → Act → World → Prop} {x : Operand} {b : Nat} (e : Ev) (hgd : op.guard = none) (ho : op.op = .load 74 x)
    (hx : a.eval x = .pointer (some ⟨b, 0, none⟩)) (hc : w.rangeAt b 0 e.list) (h : wpList Tryz.prog ops Q rest (a.put op.dst (.agg e.arr)) w) : wpList Tryz.prog ops Q (op :: rest) a w :=
  wpList_load_mid hgd 74 x ho b 0 hx e.list _ hc Tryz.underlying74 rfl (infoE e) h
theorem storeE {ops : Array Oper} {rest : List Oper} {op : Oper} {a : Act} {w : World} {Q : Exit → Act → World → Prop} {x y : Operand} {b : Nat} (e : Ev) (hgd : op.guard = none) (ho : op.op = .store 74 x y)
    (hx : a.eval x = .pointer (some ⟨b, 0, none⟩)) (hy : a.eval y = .agg e.arr) (ht : w.there b 0 19) (h : wpList Tryz.prog ops Q rest (a.put op.dst undef) (w.setCells b 0 e.arr.toList)) : wpList Tryz.prog ops Q (op :: rest) a w :=
  wpList_store_mid hgd 74 x y ho b 0 e.arr hx hy ht (infoE' e) (Ev.one e) h

def finE (e : Ev) (t : Int) (p : Sv) (full same : Bool) : Ev × Int := if full = false then (e, 1) else if e.dn = true ∧ same = false then (e, 6) else ({ e with dn := true, vt := t, vp := p }, 0)
def votE (e : Ev) (t : Int) (p : Sv) (full same none : Bool) : Ev × Int := if full = false then (e, 1) else if same = true then (e, 0) else if none = false then (e, 6) else ({ (resE e t).1 with ft := t, fp := p }, 0)

end Go.Proofs.YtogoibigabpkhaaGreat
