/- Entries by value: the law's Of; the document's Same and Right. -/
import Derived.Test.YtmndjdaiailgmaaEnt3
import Derived.Test.YtmndjdaiailgmaaValS
namespace Go.Proofs.Ytmndjdaiailgmaa
set_option linter.unusedVariables false
open Go.RowKit
open Go.Lib (hid)

theorem box2_heap (w : World) (e : Ev) (T : TypeId) (o : Obj) : ((w.alloc (.cells e.arr T)).alloc o).heap[w.heap.size]? = some (.cells e.arr T) := (Below.heap_alloc _ _ _ (by simp)).trans (heap_alloc_new w _)
theorem box2_heap' (w : World) (e : Ev) (T : TypeId) (o : Obj) : ((w.alloc o).alloc (.cells e.arr T)).heap[w.heap.size + 1]? = some (.cells e.arr T) := by have := heap_alloc_new (w.alloc o) (.cells e.arr T); simpa using this
theorem ret_cell1 {P : Program} {fn : Func} {a : Act} {w : World} {p : Tmp} {ty : TypeId} {b o : Nat} {cs : List Value} {d : TypeDesc} (h : fn.results = #[.cell p ty]) (hp : a.tmps.getD p undef = .pointer (some ⟨b, o, none⟩))
    (hc : w.rangeAt b o cs) (ht : P.underlying ty = some d) (hd : d.isRow = true) (hi : (P.info? ty).map (·.size) = some cs.length) : (results fn a.tmps).run P w = .ok (.agg cs.toArray) w := by
  simp only [results, h]
  have h1 := run_loadVar_mid w b o ty cs d hc ht hd hi
  simp only [Array.getD_eq_getD_getElem?] at hp
  simp [hp, asAddr, h1]

set_option maxHeartbeats 1600000 in
set_option maxRecDepth 100000 in
theorem cOf (e : Ev) (w : World) : Calls Try.prog 8 #[.agg e.arr] w fun x w' => x = .returned (.agg e.arr) ∧ Below w.heap.size w w' := by
  have hh := box2_heap w e 30 zeroE
  have c0 : ((w.alloc (.cells e.arr 30)).alloc zeroE).cell? ⟨w.heap.size, 0, none⟩ = some (.int .i64 e.c.i) := (cellAt' hh 0).trans rfl
  have c1 : ((w.alloc (.cells e.arr 30)).alloc zeroE).cell? ⟨w.heap.size, 1, none⟩ = some (.int .i64 e.c.k) := (cellAt' hh 1).trans rfl
  have c2 : ((w.alloc (.cells e.arr 30)).alloc zeroE).cell? ⟨w.heap.size, 2, none⟩ = some (.int .i64 e.c.s) := (cellAt' hh 2).trans rfl
  have c3 : ((w.alloc (.cells e.arr 30)).alloc zeroE).cell? ⟨w.heap.size, 3, none⟩ = some (.int .i64 e.c.t) := (cellAt' hh 3).trans rfl
  have c4 : ((w.alloc (.cells e.arr 30)).alloc zeroE).cell? ⟨w.heap.size, 4, none⟩ = some (.int .i64 e.c.d) := (cellAt' hh 4).trans rfl
  have c5 : ((w.alloc (.cells e.arr 30)).alloc zeroE).cell? ⟨w.heap.size, 5, none⟩ = some (.int .i64 e.c.p) := (cellAt' hh 5).trans rfl
  have c6 : ((w.alloc (.cells e.arr 30)).alloc zeroE).cell? ⟨w.heap.size, 6, none⟩ = some (.int .i64 e.c.q) := (cellAt' hh 6).trans rfl
  have c7 : ((w.alloc (.cells e.arr 30)).alloc zeroE).cell? ⟨w.heap.size, 7, none⟩ = some (.int .i64 e.pr) := (cellAt' hh 7).trans rfl
  have c8 : ((w.alloc (.cells e.arr 30)).alloc zeroE).cell? ⟨w.heap.size, 8, none⟩ = some (.int .i64 e.lo) := (cellAt' hh 8).trans rfl
  have c9 : ((w.alloc (.cells e.arr 30)).alloc zeroE).cell? ⟨w.heap.size, 9, none⟩ = some (.int .i64 e.hi) := (cellAt' hh 9).trans rfl
  have c10 : ((w.alloc (.cells e.arr 30)).alloc zeroE).cell? ⟨w.heap.size, 10, none⟩ = some (.int .i64 e.ft) := (cellAt' hh 10).trans rfl
  have c11 : ((w.alloc (.cells e.arr 30)).alloc zeroE).cell? ⟨w.heap.size, 11, none⟩ = some (.slice e.fp.a e.fp.n e.fp.c) := (cellAt' hh 11).trans rfl
  have c12 : ((w.alloc (.cells e.arr 30)).alloc zeroE).cell? ⟨w.heap.size, 12, none⟩ = some (.int .i64 e.ab) := (cellAt' hh 12).trans rfl
  have c13 : ((w.alloc (.cells e.arr 30)).alloc zeroE).cell? ⟨w.heap.size, 13, none⟩ = some (.int .i64 e.xt) := (cellAt' hh 13).trans rfl
  have c14 : ((w.alloc (.cells e.arr 30)).alloc zeroE).cell? ⟨w.heap.size, 14, none⟩ = some (.slice e.xp.a e.xp.n e.xp.c) := (cellAt' hh 14).trans rfl
  have c15 : ((w.alloc (.cells e.arr 30)).alloc zeroE).cell? ⟨w.heap.size, 15, none⟩ = some (.bool e.fr) := (cellAt' hh 15).trans rfl
  have c16 : ((w.alloc (.cells e.arr 30)).alloc zeroE).cell? ⟨w.heap.size, 16, none⟩ = some (.bool e.dn) := (cellAt' hh 16).trans rfl
  have c17 : ((w.alloc (.cells e.arr 30)).alloc zeroE).cell? ⟨w.heap.size, 17, none⟩ = some (.int .i64 e.vt) := (cellAt' hh 17).trans rfl
  have c18 : ((w.alloc (.cells e.arr 30)).alloc zeroE).cell? ⟨w.heap.size, 18, none⟩ = some (.slice e.vp.a e.vp.n e.vp.c) := (cellAt' hh 18).trans rfl
  have ht : ((w.alloc (.cells e.arr 30)).alloc zeroE).there (w.heap.size + 1) 0 19 := by
    have := thereNew (w.alloc (.cells e.arr 30)) (match zeroE with | .cells C _ _ => C | _ => #[]) 36 19 (by decide)
    rwa [World.size_alloc] at this
  have hb : Below w.heap.size w ((w.alloc (.cells e.arr 30)).alloc zeroE) := ((Below.refl _ w).alloc (Nat.le_refl _) _).alloc (by simp) _
  clear hh
  go_enter Try.func8, Try.ntmps8
  go_wp2_with (refine wpList_store_mid rfl 36 _ _ rfl _ _ e.arr rfl rfl ht (infoE' e) (Ev.one e) ?_)
  refine bodyPost_ret (ret_cell1 rfl rfl (setsE ht) Try.underlying36 rfl (infoE e)) rfl ⟨rfl, ?_⟩
  exact below_cells (by omega) _ _ _ hb

def sameE (e : Ev) (f a v : List C7) (e' : Ev) (f' a' v' : List C7) : Bool :=
  (decide (e.ft = e'.ft) && sameB f f') && (decide (e.xt = e'.xt) && sameB a a') && (decide (e.vt = e'.vt) && sameB v v') && e.c.same e'.c && decide (e.pr = e'.pr) && decide (e.lo = e'.lo) && decide (e.hi = e'.hi) && decide (e.ab = e'.ab) && decide (e.fr = e'.fr) && decide (e.dn = e'.dn)

set_option maxHeartbeats 4000000 in
set_option maxRecDepth 100000 in
theorem rSameE {e e' : Ev} {f f' a a' v v' : List C7} {w : World} (hf : Sl w e.fp.v f) (hf' : Sl w e'.fp.v f') (ha : Sl w e.xp.v a) (ha' : Sl w e'.xp.v a') (hv : Sl w e.vp.v v) (hv' : Sl w e'.vp.v v')
    (lf : f.length ≤ 100000) (lf' : f'.length ≤ 100000) (la : a.length ≤ 100000) (la' : a'.length ≤ 100000) (lv : v.length ≤ 100000) (lv' : v'.length ≤ 100000) :
    Calls Try.prog 10 #[.agg e.arr, .agg e'.arr] w fun x w' => x = .returned (.bool (sameE e f a v e' f' a' v')) ∧ Below w.heap.size w w' := by
  obtain ⟨b1, hb1⟩ : ∃ b, b = (decide (e.ft = e'.ft) && sameB f f') := ⟨_, rfl⟩
  obtain ⟨b2, hb2⟩ : ∃ b, b = (decide (e.xt = e'.xt) && sameB a a') := ⟨_, rfl⟩
  obtain ⟨b3, hb3⟩ : ∃ b, b = (decide (e.vt = e'.vt) && sameB v v') := ⟨_, rfl⟩
  obtain ⟨b4, hb4⟩ : ∃ b, b = e.c.same e'.c := ⟨_, rfl⟩
  have HE := hid (show sameE e f a v e' f' a' v' = (b1 && b2 && b3 && b4 && decide (e.pr = e'.pr) && decide (e.lo = e'.lo) && decide (e.hi = e'.hi) && decide (e.ab = e'.ab) && decide (e.fr = e'.fr) && decide (e.dn = e'.dn)) by rw [hb1, hb2, hb3, hb4]; rfl)
  have hE := eqlC hb4.symm
  have hG := fun op p q W => guardC op p q e.c e'.c W
  have hS1 := fun (W : World) (hB : Below w.heap.size w W) => rSameVG e.ft e'.ft (hf.on hB) (hf'.on hB) lf lf'
  have hS2 := fun (W : World) (hB : Below w.heap.size w W) => rSameVG e.xt e'.xt (ha.on hB) (ha'.on hB) la la'
  have hS3 := fun (W : World) (hB : Below w.heap.size w W) => rSameVG e.vt e'.vt (hv.on hB) (hv'.on hB) lv lv'
  rw [← hb1] at hS1
  rw [← hb2] at hS2
  rw [← hb3] at hS3
  clear hb1 hb2 hb3 hb4 hf hf' ha ha' hv hv'
  have HX : Hid (((w.alloc (.cells e.arr 36)).alloc (.cells e'.arr 36)).heap[w.heap.size]? = some (.cells e.arr 36)) := hid (box2_heap w e 36 _)
  have HY : Hid (((w.alloc (.cells e.arr 36)).alloc (.cells e'.arr 36)).heap[w.heap.size + 1]? = some (.cells e'.arr 36)) := hid (box2_heap' w e' 36 _)
  have HW : Hid (Below w.heap.size w ((w.alloc (.cells e.arr 36)).alloc (.cells e'.arr 36))) := hid (((Below.refl _ w).alloc (Nat.le_refl _) _).alloc (by simp) _)
  have hx := HX.out
  have hy := HY.out
  have c10 : ((w.alloc (.cells e.arr 36)).alloc (.cells e'.arr 36)).cell? ⟨w.heap.size, 10, none⟩ = some (.int .i64 e.ft) := (cellAt' hx 10).trans rfl
  have d10 : ((w.alloc (.cells e.arr 36)).alloc (.cells e'.arr 36)).cell? ⟨w.heap.size + 1, 10, none⟩ = some (.int .i64 e'.ft) := (cellAt' hy 10).trans rfl
  have c11 : ((w.alloc (.cells e.arr 36)).alloc (.cells e'.arr 36)).cell? ⟨w.heap.size, 11, none⟩ = some (.slice e.fp.a e.fp.n e.fp.c) := (cellAt' hx 11).trans rfl
  have d11 : ((w.alloc (.cells e.arr 36)).alloc (.cells e'.arr 36)).cell? ⟨w.heap.size + 1, 11, none⟩ = some (.slice e'.fp.a e'.fp.n e'.fp.c) := (cellAt' hy 11).trans rfl
  clear hx hy
  go_enter Try.func10, Try.ntmps10
  go_wp2_with fail
  go_at_call 36
  refine (hS1 _ HW.out).mono ?_
  rintro x w1 ⟨rfl, hB⟩
  replace HX := hid (heapB HX.out hB (Array.getElem?_eq_some_iff.1 HX.out).1)
  replace HY := hid (heapB HY.out hB (Array.getElem?_eq_some_iff.1 HY.out).1)
  replace HW := hid (HW.out.trans (hB.mono HW.out.size))
  clear hB
  have hx := HX.out
  have hy := HY.out
  clear c10 c11 d10 d11
  have c13 : w1.cell? ⟨w.heap.size, 13, none⟩ = some (.int .i64 e.xt) := (cellAt' hx 13).trans rfl
  have d13 : w1.cell? ⟨w.heap.size + 1, 13, none⟩ = some (.int .i64 e'.xt) := (cellAt' hy 13).trans rfl
  have c14 : w1.cell? ⟨w.heap.size, 14, none⟩ = some (.slice e.xp.a e.xp.n e.xp.c) := (cellAt' hx 14).trans rfl
  have d14 : w1.cell? ⟨w.heap.size + 1, 14, none⟩ = some (.slice e'.xp.a e'.xp.n e'.xp.c) := (cellAt' hy 14).trans rfl
  clear hx hy
  go_wp2_with fail
  go_at_call 36
  refine (hS2 _ HW.out).mono ?_
  rintro x w2 ⟨rfl, hB⟩
  replace HX := hid (heapB HX.out hB (Array.getElem?_eq_some_iff.1 HX.out).1)
  replace HY := hid (heapB HY.out hB (Array.getElem?_eq_some_iff.1 HY.out).1)
  replace HW := hid (HW.out.trans (hB.mono HW.out.size))
  clear hB
  have hx := HX.out
  have hy := HY.out
  clear c13 c14 d13 d14
  have c17 : w2.cell? ⟨w.heap.size, 17, none⟩ = some (.int .i64 e.vt) := (cellAt' hx 17).trans rfl
  have d17 : w2.cell? ⟨w.heap.size + 1, 17, none⟩ = some (.int .i64 e'.vt) := (cellAt' hy 17).trans rfl
  have c18 : w2.cell? ⟨w.heap.size, 18, none⟩ = some (.slice e.vp.a e.vp.n e.vp.c) := (cellAt' hx 18).trans rfl
  have d18 : w2.cell? ⟨w.heap.size + 1, 18, none⟩ = some (.slice e'.vp.a e'.vp.n e'.vp.c) := (cellAt' hy 18).trans rfl
  clear hx hy
  go_wp2_with fail
  go_at_call 36
  refine (hS3 _ HW.out).mono ?_
  rintro x w3 ⟨rfl, hB⟩
  replace HX := hid (heapB HX.out hB (Array.getElem?_eq_some_iff.1 HX.out).1)
  replace HY := hid (heapB HY.out hB (Array.getElem?_eq_some_iff.1 HY.out).1)
  replace HW := hid (HW.out.trans (hB.mono HW.out.size))
  clear hB
  have hx := HX.out
  have hy := HY.out
  clear c17 c18 d17 d18
  have c0 : w3.cell? ⟨w.heap.size, 0, none⟩ = some (.int .i64 e.c.i) := (cellAt' hx 0).trans rfl
  have d0 : w3.cell? ⟨w.heap.size + 1, 0, none⟩ = some (.int .i64 e'.c.i) := (cellAt' hy 0).trans rfl
  have c1 : w3.cell? ⟨w.heap.size, 1, none⟩ = some (.int .i64 e.c.k) := (cellAt' hx 1).trans rfl
  have d1 : w3.cell? ⟨w.heap.size + 1, 1, none⟩ = some (.int .i64 e'.c.k) := (cellAt' hy 1).trans rfl
  have c2 : w3.cell? ⟨w.heap.size, 2, none⟩ = some (.int .i64 e.c.s) := (cellAt' hx 2).trans rfl
  have d2 : w3.cell? ⟨w.heap.size + 1, 2, none⟩ = some (.int .i64 e'.c.s) := (cellAt' hy 2).trans rfl
  have c3 : w3.cell? ⟨w.heap.size, 3, none⟩ = some (.int .i64 e.c.t) := (cellAt' hx 3).trans rfl
  have d3 : w3.cell? ⟨w.heap.size + 1, 3, none⟩ = some (.int .i64 e'.c.t) := (cellAt' hy 3).trans rfl
  have c4 : w3.cell? ⟨w.heap.size, 4, none⟩ = some (.int .i64 e.c.d) := (cellAt' hx 4).trans rfl
  have d4 : w3.cell? ⟨w.heap.size + 1, 4, none⟩ = some (.int .i64 e'.c.d) := (cellAt' hy 4).trans rfl
  have c5 : w3.cell? ⟨w.heap.size, 5, none⟩ = some (.int .i64 e.c.p) := (cellAt' hx 5).trans rfl
  have d5 : w3.cell? ⟨w.heap.size + 1, 5, none⟩ = some (.int .i64 e'.c.p) := (cellAt' hy 5).trans rfl
  have c6 : w3.cell? ⟨w.heap.size, 6, none⟩ = some (.int .i64 e.c.q) := (cellAt' hx 6).trans rfl
  have d6 : w3.cell? ⟨w.heap.size + 1, 6, none⟩ = some (.int .i64 e'.c.q) := (cellAt' hy 6).trans rfl
  have c7 : w3.cell? ⟨w.heap.size, 7, none⟩ = some (.int .i64 e.pr) := (cellAt' hx 7).trans rfl
  have d7 : w3.cell? ⟨w.heap.size + 1, 7, none⟩ = some (.int .i64 e'.pr) := (cellAt' hy 7).trans rfl
  have c8 : w3.cell? ⟨w.heap.size, 8, none⟩ = some (.int .i64 e.lo) := (cellAt' hx 8).trans rfl
  have d8 : w3.cell? ⟨w.heap.size + 1, 8, none⟩ = some (.int .i64 e'.lo) := (cellAt' hy 8).trans rfl
  have c9 : w3.cell? ⟨w.heap.size, 9, none⟩ = some (.int .i64 e.hi) := (cellAt' hx 9).trans rfl
  have d9 : w3.cell? ⟨w.heap.size + 1, 9, none⟩ = some (.int .i64 e'.hi) := (cellAt' hy 9).trans rfl
  have c12 : w3.cell? ⟨w.heap.size, 12, none⟩ = some (.int .i64 e.ab) := (cellAt' hx 12).trans rfl
  have d12 : w3.cell? ⟨w.heap.size + 1, 12, none⟩ = some (.int .i64 e'.ab) := (cellAt' hy 12).trans rfl
  have c15 : w3.cell? ⟨w.heap.size, 15, none⟩ = some (.bool e.fr) := (cellAt' hx 15).trans rfl
  have d15 : w3.cell? ⟨w.heap.size + 1, 15, none⟩ = some (.bool e'.fr) := (cellAt' hy 15).trans rfl
  have c16 : w3.cell? ⟨w.heap.size, 16, none⟩ = some (.bool e.dn) := (cellAt' hx 16).trans rfl
  have d16 : w3.cell? ⟨w.heap.size + 1, 16, none⟩ = some (.bool e'.dn) := (cellAt' hy 16).trans rfl
  clear hx hy
  go_wp2
  all_goals (
    go_ret
    exact ⟨ret_bool (by rw [HE.out]; first | (simp_all; done) | (simp_all; generalize e.dn = x; generalize e'.dn = y; cases x <;> cases y <;> rfl)), HW.out⟩)
end Go.Proofs.Ytmndjdaiailgmaa
