/- Entries by value: the document's Right. -/
import Derived.Test.YtmndjdaiailgmaaEnt4
import Derived.Deep.CutRange
namespace Go.Proofs.Ytmndjdaiailgmaa
set_option linter.unusedVariables false
open Go.RowKit
open Go.Lib (hid)

def timesB (lo hi : Int) : Bool := (decide (lo = 0) && decide (hi = 0)) || (validB lo && validB hi && decide (lo ≤ hi))
def rightE (e : Ev) (f a v : List C7) : Bool := e.c.ok && withinB e.pr 1048576 && timesB e.lo e.hi && mustB e.ft f (!decide (e.ft = 0)) && withinB e.ab 1048576 && mustB e.xt a (!decide (e.ab = 0)) && mustB e.vt v e.dn

set_option maxHeartbeats 4000000 in
set_option maxRecDepth 100000 in
theorem rRightE {e : Ev} {f a v : List C7} {w : World} (hf : Sl w e.fp.v f) (ha : Sl w e.xp.v a) (hv : Sl w e.vp.v v) (lf : f.length ≤ 1024) (la : a.length ≤ 1024) (lv : v.length ≤ 1024) :
    Calls Try.prog 12 #[.agg e.arr] w fun x w' => x = .returned (.bool (rightE e f a v)) ∧ Below w.heap.size w w' := by
  obtain ⟨b1, hb1⟩ : ∃ b, b = e.c.ok := ⟨_, rfl⟩
  obtain ⟨b2, hb2⟩ : ∃ b, b = withinB e.pr 1048576 := ⟨_, rfl⟩
  obtain ⟨b3, hb3⟩ : ∃ b, b = validB e.lo := ⟨_, rfl⟩
  obtain ⟨b4, hb4⟩ : ∃ b, b = validB e.hi := ⟨_, rfl⟩
  obtain ⟨b5, hb5⟩ : ∃ b, b = mustB e.ft f (!decide (e.ft = 0)) := ⟨_, rfl⟩
  obtain ⟨b6, hb6⟩ : ∃ b, b = withinB e.ab 1048576 := ⟨_, rfl⟩
  obtain ⟨b7, hb7⟩ : ∃ b, b = mustB e.xt a (!decide (e.ab = 0)) := ⟨_, rfl⟩
  obtain ⟨b8, hb8⟩ : ∃ b, b = mustB e.vt v e.dn := ⟨_, rfl⟩
  have HE := hid (show rightE e f a v = (b1 && b2 && ((decide (e.lo = 0) && decide (e.hi = 0)) || (b3 && b4 && decide (e.lo ≤ e.hi))) && b5 && b6 && b7 && b8) by rw [hb1, hb2, hb3, hb4, hb5, hb6, hb7, hb8]; rfl)
  have hO : ∀ W, Calls Try.prog 42 #[.agg #[.int .i64 e.c.i, .int .i64 e.c.k, .int .i64 e.c.s, .int .i64 e.c.t, .int .i64 e.c.d, .int .i64 e.c.p, .int .i64 e.c.q]] W fun x w' => x = .returned (.bool e.c.ok) ∧ Below W.heap.size W w' := fun W => rOne e.c.i e.c.k e.c.s e.c.t e.c.d e.c.p e.c.q W
  have hV1 := fun W => rValid e.lo W
  have hV2 := fun W => rValid e.hi W
  have hM1 := fun (W : World) (is : Bool) (hi : is = !decide (e.ft = 0)) (hB : Below w.heap.size w W) => (show Calls Try.prog 44 #[.agg #[.int .i64 e.ft, e.fp.v], .bool is] W fun x w' => x = .returned (.bool (mustB e.ft f (!decide (e.ft = 0)))) ∧ Below W.heap.size W w' from hi ▸ rMust e.ft is (hf.on hB) lf)
  have hM2 := fun (W : World) (is : Bool) (hi : is = !decide (e.ab = 0)) (hB : Below w.heap.size w W) => (show Calls Try.prog 44 #[.agg #[.int .i64 e.xt, e.xp.v], .bool is] W fun x w' => x = .returned (.bool (mustB e.xt a (!decide (e.ab = 0)))) ∧ Below W.heap.size W w' from hi ▸ rMust e.xt is (ha.on hB) la)
  have hM3 := fun (W : World) (hB : Below w.heap.size w W) => rMust e.vt e.dn (hv.on hB) lv
  have hP1 := fun W => rBallot e.pr W
  have hP2 := fun W => rBallot e.ab W
  rw [← hb1] at hO
  rw [← hb3] at hV1
  rw [← hb4] at hV2
  rw [← hb5] at hM1
  rw [← hb7] at hM2
  rw [← hb8] at hM3
  rw [← hb2] at hP1
  rw [← hb6] at hP2
  clear hb1 hb2 hb3 hb4 hb5 hb6 hb7 hb8 hf ha hv
  have HX : Hid ((w.alloc (.cells e.arr 36)).heap[w.heap.size]? = some (.cells e.arr 36)) := hid (heap_alloc_new w _)
  have HW : Hid (Below w.heap.size w (w.alloc (.cells e.arr 36))) := hid ((Below.refl _ w).alloc (Nat.le_refl _) _)
  have hx := HX.out
  have c0 : (w.alloc (.cells e.arr 36)).cell? ⟨w.heap.size, 0, none⟩ = some (.int .i64 e.c.i) := (cellAt' hx 0).trans rfl
  have c1 : (w.alloc (.cells e.arr 36)).cell? ⟨w.heap.size, 1, none⟩ = some (.int .i64 e.c.k) := (cellAt' hx 1).trans rfl
  have c2 : (w.alloc (.cells e.arr 36)).cell? ⟨w.heap.size, 2, none⟩ = some (.int .i64 e.c.s) := (cellAt' hx 2).trans rfl
  have c3 : (w.alloc (.cells e.arr 36)).cell? ⟨w.heap.size, 3, none⟩ = some (.int .i64 e.c.t) := (cellAt' hx 3).trans rfl
  have c4 : (w.alloc (.cells e.arr 36)).cell? ⟨w.heap.size, 4, none⟩ = some (.int .i64 e.c.d) := (cellAt' hx 4).trans rfl
  have c5 : (w.alloc (.cells e.arr 36)).cell? ⟨w.heap.size, 5, none⟩ = some (.int .i64 e.c.p) := (cellAt' hx 5).trans rfl
  have c6 : (w.alloc (.cells e.arr 36)).cell? ⟨w.heap.size, 6, none⟩ = some (.int .i64 e.c.q) := (cellAt' hx 6).trans rfl
  clear hx
  go_enter Try.func12, Try.ntmps12
  go_wp2_with fail
  go_at_call 42
  refine (hO _).mono ?_
  rintro x w1 ⟨rfl, hB⟩
  replace HX := hid (heapB HX.out hB (Array.getElem?_eq_some_iff.1 HX.out).1)
  replace HW := hid (HW.out.trans (hB.mono HW.out.size))
  clear hB c0 c1 c2 c3 c4 c5 c6
  have hx := HX.out
  have c8 : w1.cell? ⟨w.heap.size, 8, none⟩ = some (.int .i64 e.lo) := (cellAt' hx 8).trans rfl
  have c9 : w1.cell? ⟨w.heap.size, 9, none⟩ = some (.int .i64 e.hi) := (cellAt' hx 9).trans rfl
  have c10 : w1.cell? ⟨w.heap.size, 10, none⟩ = some (.int .i64 e.ft) := (cellAt' hx 10).trans rfl
  have c11 : w1.cell? ⟨w.heap.size, 11, none⟩ = some (.slice e.fp.a e.fp.n e.fp.c) := (cellAt' hx 11).trans rfl
  clear hx
  go_wp2_with fail
  go_at_call 43
  refine (hV1 _).mono ?_
  rintro x w' ⟨rfl, rfl⟩
  go_wp2_with fail
  go_at_call 43
  refine (hV2 _).mono ?_
  rintro x w' ⟨rfl, rfl⟩
  obtain ⟨b9, hb9⟩ : ∃ b, b = ((decide (e.lo = 0) && decide (e.hi = 0)) || (b3 && b4 && decide (e.lo ≤ e.hi))) := ⟨_, rfl⟩
  rw [← hb9] at HE
  go_upto_region 4 with fail
  go_cut [4, 5, 6] from 10 to 39 (fun _ _ u wx => u = .bool b9 ∧ wx = w1)
  case first =>
    go_wp2_with fail
    all_goals (
      go_meet
      exact ⟨by rw [hb9]; congr 1; first | (simp_all; done) | (simp_all; omega), rfl⟩)
  case rest =>
    obtain ⟨rfl, rfl⟩ := hcut
    clear hb9
    go_wp2_with fail
    go_at_call 44
    refine (hM1 _ _ (by first | rfl | simp) HW.out).mono ?_
    rintro x w2 ⟨rfl, hB⟩
    replace HX := hid (heapB HX.out hB (Array.getElem?_eq_some_iff.1 HX.out).1)
    replace HW := hid (HW.out.trans (hB.mono HW.out.size))
    clear hB c8 c9 c10 c11
    have hx := HX.out
    have c12 : w2.cell? ⟨w.heap.size, 12, none⟩ = some (.int .i64 e.ab) := (cellAt' hx 12).trans rfl
    have c13 : w2.cell? ⟨w.heap.size, 13, none⟩ = some (.int .i64 e.xt) := (cellAt' hx 13).trans rfl
    have c14 : w2.cell? ⟨w.heap.size, 14, none⟩ = some (.slice e.xp.a e.xp.n e.xp.c) := (cellAt' hx 14).trans rfl
    clear hx
    go_wp2_with fail
    go_at_call 44
    refine (hM2 _ _ (by first | rfl | simp) HW.out).mono ?_
    rintro x w3 ⟨rfl, hB⟩
    replace HX := hid (heapB HX.out hB (Array.getElem?_eq_some_iff.1 HX.out).1)
    replace HW := hid (HW.out.trans (hB.mono HW.out.size))
    clear hB c12 c13 c14
    have hx := HX.out
    have c16 : w3.cell? ⟨w.heap.size, 16, none⟩ = some (.bool e.dn) := (cellAt' hx 16).trans rfl
    have c17 : w3.cell? ⟨w.heap.size, 17, none⟩ = some (.int .i64 e.vt) := (cellAt' hx 17).trans rfl
    have c18 : w3.cell? ⟨w.heap.size, 18, none⟩ = some (.slice e.vp.a e.vp.n e.vp.c) := (cellAt' hx 18).trans rfl
    clear hx
    go_wp2_with fail
    go_at_call 44
    refine (hM3 _ HW.out).mono ?_
    rintro x w4 ⟨rfl, hB⟩
    replace HX := hid (heapB HX.out hB (Array.getElem?_eq_some_iff.1 HX.out).1)
    replace HW := hid (HW.out.trans (hB.mono HW.out.size))
    clear hB c16 c17 c18
    have hx := HX.out
    have c7 : w4.cell? ⟨w.heap.size, 7, none⟩ = some (.int .i64 e.pr) := (cellAt' hx 7).trans rfl
    have c12 : w4.cell? ⟨w.heap.size, 12, none⟩ = some (.int .i64 e.ab) := (cellAt' hx 12).trans rfl
    clear hx
    go_wp2_with (first
      | (go_at_call 45; refine (hP1 _).mono ?_; rintro x w' ⟨rfl, rfl⟩)
      | (go_at_call 45; refine (hP2 _).mono ?_; rintro x w' ⟨rfl, rfl⟩))
    all_goals (
      go_ret
      exact ⟨ret_bool (by rw [HE.out]; simp_all), HW.out⟩)
end Go.Proofs.Ytmndjdaiailgmaa
