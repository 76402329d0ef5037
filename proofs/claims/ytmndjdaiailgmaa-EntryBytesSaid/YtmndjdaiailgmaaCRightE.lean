/- Entries by value: the program's Right, all ways; the law's same. -/
import Derived.Test.YtmndjdaiailgmaaCRightA
import Derived.Test.YtmndjdaiailgmaaCRightB
import Derived.Test.YtmndjdaiailgmaaCRightC
namespace Go.Proofs.Ytmndjdaiailgmaa
set_option linter.unusedVariables false
open Go.RowKit Go.Sort
open Go.Lib (hid)

def rightP (e : Ev) (f a v : List C7) : Bool := e.c.ok && withinB e.pr 1048576 && withinB e.ab 1048576 && timesB e.lo e.hi && mustB e.ft f (!noneB e.ft f) && mustB e.xt a (decide (0 < e.ab)) && mustB e.vt v e.dn
theorem must_none {t : Int} {l : List C7} : mustB t l (!noneB t l) = mustB t l (!decide (t = 0)) := by
  by_cases ht : t = 0
  · subst ht
    have hF : fullB 0 l = false := by unfold fullB; rfl
    unfold mustB
    rw [hF]
    cases noneB 0 l <;> rfl
  · have hN : noneB t l = false := by unfold noneB; simp [ht]
    rw [hN]
    have : (!decide (t = 0)) = true := by simp [ht]
    rw [this]; rfl
theorem rightP_eq (e : Ev) (f a v : List C7) : rightP e f a v = rightE e f a v := by
  unfold rightP rightE
  rw [must_none]
  rcases h : withinB e.ab 1048576 with _ | _
  · simp
  · have h0 : 0 ≤ e.ab := by unfold withinB at h; simp at h; exact h.1
    have : decide (0 < e.ab) = !decide (e.ab = 0) := by
      rw [Bool.eq_iff_iff]; simp; omega
    rw [this]
    cases e.c.ok <;> cases withinB e.pr 1048576 <;> cases timesB e.lo e.hi <;> simp
theorem below_of_same {W : World} {e e' : Ending} {w' : World} (h : e = e' ∧ W = w') : e = e' ∧ Below W.heap.size W w' := ⟨h.1, h.2 ▸ Below.refl _ _⟩

theorem cRightE {e : Ev} {f a v : List C7} {w : World} (hf : Sl w e.fp.v f) (ha : Sl w e.xp.v a) (hv : Sl w e.vp.v v) (lf : f.length ≤ 1024) (la : a.length ≤ 1024) (lv : v.length ≤ 1024) :
    Calls Try.prog 6 #[.agg e.arr] w fun x w' => x = .returned (.bool (rightE e f a v)) ∧ Below w.heap.size w w' := by
  rw [← rightP_eq]
  have hO : ∀ (W : World) (u : Value), Sl W u [e.c] → Calls Try.prog 17 #[u] W fun x w' => x = .returned (.bool e.c.ok) ∧ Below W.heap.size W w' := fun W u hu => by
    have := cRight' hu (by simp)
    simpa using this
  have hn : e.fp.n = f.length := by
    obtain ⟨_, _, cap, a, hv', _⟩ := id hf
    injection hv' with h1 h2 h3
  have h1 := fun (W : World) (_ : Below w.heap.size w W) => (cBallot e.pr W).mono fun _ _ h => below_of_same h
  have h2 := fun (W : World) (_ : Below w.heap.size w W) => (cBallot e.ab W).mono fun _ _ h => below_of_same h
  have h3 := fun (W : World) (_ : Below w.heap.size w W) => (cTimes e.lo e.hi W).mono fun _ _ h => below_of_same h
  have h4 := fun (W : World) (_ : Below w.heap.size w W) => cNone (a := e.fp.a) (cap := e.fp.c) (l := f) (w := W) e.ft hn
  have h5 := fun (W : World) (hB : Below w.heap.size w W) => cMust e.ft (!noneB e.ft f) (hf.on hB) lf
  have h6 := fun (W : World) (hB : Below w.heap.size w W) => cMust e.xt (decide (0 < e.ab)) (ha.on hB) la
  have h7 := fun (W : World) (hB : Below w.heap.size w W) => cMust e.vt e.dn (hv.on hB) lv
  rcases b0 : e.c.ok with _ | _
  · rw [b0] at hO
    have : rightP e f a v = false := by unfold rightP; rw [b0]; rfl
    rw [this]
    exact cRight_0 (bn := true) hO
  rw [b0] at hO
  rcases b1 : withinB e.pr 1048576 with _ | _
  · rw [b1] at h1
    have : rightP e f a v = false := by unfold rightP; rw [b0, b1]; rfl
    rw [this]
    exact cRight_1 (bn := true) hO h1
  rw [b1] at h1
  rcases b2 : withinB e.ab 1048576 with _ | _
  · rw [b2] at h2
    have : rightP e f a v = false := by unfold rightP; rw [b0, b1, b2]; rfl
    rw [this]
    exact cRight_2 (bn := true) hO h1 h2
  rw [b2] at h2
  rcases b3 : timesB e.lo e.hi with _ | _
  · rw [b3] at h3
    have : rightP e f a v = false := by unfold rightP; rw [b0, b1, b2, b3]; rfl
    rw [this]
    exact cRight_3 (bn := true) hO h1 h2 h3
  rw [b3] at h3
  rcases b5 : mustB e.ft f (!noneB e.ft f) with _ | _
  · rw [b5] at h5
    have : rightP e f a v = false := by unfold rightP; rw [b0, b1, b2, b3, b5]; rfl
    rw [this]
    exact cRight_4 hO h1 h2 h3 h4 h5
  rw [b5] at h5
  rcases b6 : mustB e.xt a (decide (0 < e.ab)) with _ | _
  · rw [b6] at h6
    have : rightP e f a v = false := by unfold rightP; rw [b0, b1, b2, b3, b5, b6]; rfl
    rw [this]
    exact cRight_5 hO h1 h2 h3 h4 h5 h6
  rw [b6] at h6
  rcases b7 : mustB e.vt v e.dn with _ | _
  · rw [b7] at h7
    have : rightP e f a v = false := by unfold rightP; rw [b0, b1, b2, b3, b5, b6, b7]; rfl
    rw [this]
    exact cRight_6 hO h1 h2 h3 h4 h5 h6 h7
  rw [b7] at h7
  have : rightP e f a v = true := by unfold rightP; rw [b0, b1, b2, b3, b5, b6, b7]; rfl
  rw [this]
  exact cRight_7 hO h1 h2 h3 h4 h5 h6 h7

theorem quietR {C : World → Prop} {K : Act → Prop} {o : Oper} {a : Act} {x : Operand} {q : Nat} {T : TypeId} (e : Ev) (ho : o.op = .load 36 x) (hx : a.eval x = .pointer (some ⟨q, 0, none⟩)) (hC : ∀ w, C w → Ob w q T e) (hK : K (a.put o.dst (.agg e.arr))) : o.quiet Try.prog a C K :=
  ⟨_, fun w hw => by unfold Oper.quietAt execOp; simp only [ho, hx, Instr.loadAt, Instr.sureAddr, Sem.run_bind, Sem.run_pure, Result.andThen_ok, run_loadVar_mid w q 0 36 e.list _ (hC w hw).range Try.underlying36 rfl (infoE e)]; exact ⟨rfl, rfl⟩, hK⟩
theorem quietC {C : World → Prop} {K : Act → Prop} {o : Oper} {a : Act} {x : Operand} {q : Nat} {T : TypeId} (e : Ev) (ho : o.op = .load 30 x) (hx : a.eval x = .pointer (some ⟨q, 0, none⟩)) (hC : ∀ w, C w → Ob w q T e) (hK : K (a.put o.dst (.agg e.arr))) : o.quiet Try.prog a C K :=
  ⟨_, fun w hw => by unfold Oper.quietAt execOp; simp only [ho, hx, Instr.loadAt, Instr.sureAddr, Sem.run_bind, Sem.run_pure, Result.andThen_ok, run_loadVar_mid w q 0 30 e.list _ (hC w hw).range Try.underlying30 rfl (infoEc e)]; exact ⟨rfl, rfl⟩, hK⟩
theorem obGrown {w1 : World} {q : Nat} {T : TypeId} {e : Ev} (h : Ob w1 q T e) : ∀ W, (∃ p : Regrown, W = grow (redrawn w1 p.d) p.os) → Ob W q T e := by
  rintro W ⟨p, rfl⟩
  exact heapB h (below_regrown w1 p.d p.os) (Array.getElem?_eq_some_iff.1 h).1

set_option maxHeartbeats 8000000 in
set_option maxRecDepth 100000 in
theorem cSame6 {e m : Ev} {f f' a a' v v' : List C7} {w : World} (hf : Sl w e.fp.v f) (hf' : Sl w m.fp.v f') (ha : Sl w e.xp.v a) (ha' : Sl w m.xp.v a') (hv : Sl w e.vp.v v) (hv' : Sl w m.vp.v v')
    (lf : f.length ≤ 100000) (lf' : f'.length ≤ 100000) (la : a.length ≤ 100000) (la' : a'.length ≤ 100000) (lv : v.length ≤ 100000) (lv' : v'.length ≤ 100000) :
    Calls Try.prog 14 #[.agg e.arr, .agg m.arr] w fun x w' => x = .returned (.bool (sameE e f a v m f' a' v')) ∧ Below w.heap.size w w' := by
  obtain ⟨w1, hw1⟩ : ∃ W, W = (w.alloc (.cells e.arr 30)).alloc (.cells m.arr 36) := ⟨_, rfl⟩
  have HX : Hid (Ob w1 w.heap.size 30 e) := hid (by rw [hw1]; exact laid2_0 w _ _)
  have HY : Hid (Ob w1 (w.heap.size + 1) 36 m) := hid (by rw [hw1]; exact laid2_1 w _ _)
  have HW : Hid (Below w.heap.size w w1) := hid (by rw [hw1]; exact laid2_b w _ _)
  have hq1 := quietB (w1 := w1) (fun W hW => cOf e W)
  have hq2 := quietB (w1 := w1) (fun W hW => rSameE (w := W) (hf.on (HW.out.trans (hW.mono HW.out.size))) (hf'.on (HW.out.trans (hW.mono HW.out.size))) (ha.on (HW.out.trans (hW.mono HW.out.size))) (ha'.on (HW.out.trans (hW.mono HW.out.size))) (hv.on (HW.out.trans (hW.mono HW.out.size))) (hv'.on (HW.out.trans (hW.mono HW.out.size))) lf lf' la la' lv lv')
  have HE := hid hw1
  clear hw1 hf hf' ha ha' hv hv'
  go_enter Try.func14, Try.ntmps14
  go_wp2_with fail
  rw [← HE.out]
  refine wp_region_quiet_below (by kernel_rfl) (by kernel_rfl) ?_
  go_big_quiet_want
  refine quietC e rfl rfl (obGrown HX.out) ?_
  go_big_quiet_on
  simp only [Act.put, List.setIfInBounds_toArray, List.set_cons_succ, List.set_cons_zero]
  go_big_quiet_step (with_reducible exact hq1 _ _)
  go_big_quiet_want
  refine quietR m rfl rfl (obGrown HY.out) ?_
  go_big_quiet_on
  simp only [Act.put, List.setIfInBounds_toArray, List.set_cons_succ, List.set_cons_zero]
  go_big_quiet_step (with_reducible exact hq2 _ _)
  go_big_quiet_step (fail)
  refine wpQuiet_nil ?_
  rintro _ ⟨⟨dq, osq⟩, rfl⟩
  go_wp2
  go_ret
  exact ⟨rfl, HW.out.trans ((below_regrown w1 dq osq).mono HW.out.size)⟩
end Go.Proofs.Ytmndjdaiailgmaa
