import Derived.Test.YtpkkmfppdhjpkaaGreatCRightAM
import Derived.Test.YtpkkmfppdhjpkaaGreatCRightBM
import Derived.Test.YtpkkmfppdhjpkaaGreatCRightCM
import Derived.Test.YtpkkmfppdhjpkaaGreatGa12
import Derived.Deep.RegionHeld
/- Entries by value: the program's Right, all ways; the law's same. -/


namespace Go.Proofs.YtpkkmfppdhjpkaaGreat
set_option linter.unusedVariables false
open Go.RowKit Go.Sort
open Go.Lib (hid)

def rightP (e : Ev) (f a v : List C7) : Bool := e.c.ok && withinB e.pr 1048576 && withinB e.ab 1048576 && timesB e.lo e.hi && mustB e.ft f (!noneB e.ft f) && mustB e.xt a (decide (0 < e.ab)) && mustB e.vt v e.dn
theorem must_none {t : Int} {l : List C7} : mustB t l (!noneB t l) = mustB t l (!decide (t = 0)) := by
  by_cases ht : t = 0
  · subst ht
    have hF : fullB 0 l = false := by unfold fullB; rfl
    unfold mustB
    rw [hF]
    cases noneB 0 l <;> rfl
  · have hN : noneB t l = false := by unfold noneB; simp [ht]
    rw [hN]
    have : (!decide (t = 0)) = true := by simp [ht]
    rw [this]; rfl
theorem rightP_eq (e : Ev) (f a v : List C7) : rightP e f a v = rightE e f a v := by
  unfold rightP rightE
  rw [must_none]
  rcases h : withinB e.ab 1048576 with _ | _
  · simp
  · have h0 : 0 ≤ e.ab := by unfold withinB at h; simp at h; exact h.1
    have : decide (0 < e.ab) = !decide (e.ab = 0) := by
      rw [Bool.eq_iff_iff]; simp; omega
    rw [this]
    cases e.c.ok <;> cases withinB e.pr 1048576 <;> cases timesB e.lo e.hi <;> simp
theorem below_of_same {W : World} {e e' : Ending} {w' : World} (h : e = e' ∧ W = w') : e = e' ∧ Below W.heap.size W w' := ⟨h.1, h.2 ▸ Below.refl _ _⟩

theorem cRightE {e : Ev} {f a v : List C7} {w : World} (hf : Sl w e.fp.v f) (ha : Sl w e.xp.v a) (hv : Sl w e.vp.v v) (lf : f.length ≤ 1024) (la : a.length ≤ 1024) (lv : v.length ≤ 1024) :
    Calls Tryz.prog 69 #[.agg e.arr] w fun x w' => x = .returned (.bool (rightE e f a v)) ∧ Below w.heap.size w w' := by
  rw [← rightP_eq]
  have hO : ∀ (W : World) (u : Value), Sl W u [e.c] → Calls Tryz.prog 40 #[u] W fun x w' => x = .returned (.bool e.c.ok) ∧ Below W.heap.size W w' := fun W u hu => by
    have := cRight' hu (by simp)
    simpa using this
  have hn : e.fp.n = f.length := by
    obtain ⟨_, _, cap, a, hv', _⟩ := id hf
    injection hv' with h1 h2 h3
  have h1 := fun (W : World) (_ : Below w.heap.size w W) => (cBallot e.pr W).mono fun _ _ h => below_of_same h
  have h2 := fun (W : World) (_ : Below w.heap.size w W) => (cBallot e.ab W).mono fun _ _ h => below_of_same h
  have h3 := fun (W : World) (_ : Below w.heap.size w W) => (cTimes e.lo e.hi W).mono fun _ _ h => below_of_same h
  have h4 := fun (W : World) (_ : Below w.heap.size w W) => cNone (a := e.fp.a) (cap := e.fp.c) (l := f) (w := W) e.ft hn
  have h5 := fun (W : World) (hB : Below w.heap.size w W) => cMust e.ft (!noneB e.ft f) (hf.on hB) lf
  have h6 := fun (W : World) (hB : Below w.heap.size w W) => cMust e.xt (decide (0 < e.ab)) (ha.on hB) la
  have h7 := fun (W : World) (hB : Below w.heap.size w W) => cMust e.vt e.dn (hv.on hB) lv
  rcases b0 : e.c.ok with _ | _
  · rw [b0] at hO
    have : rightP e f a v = false := by unfold rightP; rw [b0]; rfl
    rw [this]
    exact cRight_0 (bn := true) hO
  rw [b0] at hO
  rcases b1 : withinB e.pr 1048576 with _ | _
  · rw [b1] at h1
    have : rightP e f a v = false := by unfold rightP; rw [b0, b1]; rfl
    rw [this]
    exact cRight_1 (bn := true) hO h1
  rw [b1] at h1
  rcases b2 : withinB e.ab 1048576 with _ | _
  · rw [b2] at h2
    have : rightP e f a v = false := by unfold rightP; rw [b0, b1, b2]; rfl
    rw [this]
    exact cRight_2 (bn := true) hO h1 h2
  rw [b2] at h2
  rcases b3 : timesB e.lo e.hi with _ | _
  · rw [b3] at h3
    have : rightP e f a v = false := by unfold rightP; rw [b0, b1, b2, b3]; rfl
    rw [this]
    exact cRight_3 (bn := true) hO h1 h2 h3
  rw [b3] at h3
  rcases b5 : mustB e.ft f (!noneB e.ft f) with _ | _
  · rw [b5] at h5
    have : rightP e f a v = false := by unfold rightP; rw [b0, b1, b2, b3, b5]; rfl
    rw [this]
    exact cRight_4 hO h1 h2 h3 h4 h5
  rw [b5] at h5
  rcases b6 : mustB e.xt a (decide (0 < e.ab)) with _ | _
  · rw [b6] at h6
    have : rightP e f a v = false := by unfold rightP; rw [b0, b1, b2, b3, b5, b6]; rfl
    rw [this]
    exact cRight_5 hO h1 h2 h3 h4 h5 h6
  rw [b6] at h6
  rcases b7 : mustB e.vt v e.dn with _ | _
  · rw [b7] at h7
    have : rightP e f a v = false := by unfold rightP; rw [b0, b1, b2, b3, b5, b6, b7]; rfl
    rw [this]
    exact cRight_6 hO h1 h2 h3 h4 h5 h6 h7
  rw [b7] at h7
  have : rightP e f a v = true := by unfold rightP; rw [b0, b1, b2, b3, b5, b6, b7]; rfl
  rw [this]
  exact cRight_7 hO h1 h2 h3 h4 h5 h6 h7

theorem quietR {C : World → Prop} {K : Act → Prop} {o : Oper} {a : Act} {x : Operand} {q : Nat} {T : TypeId} (e : Ev) (ho : o.op = .load 44 x) (hx : a.eval x = .pointer (some ⟨q, 0, none⟩)) (hC : ∀ w, C w → Ob w q T e) (hK : K (a.put o.dst (.agg e.arr))) : o.quiet Tryz.prog a C K :=
  ⟨_, fun w hw => by unfold Oper.quietAt execOp; simp only [ho, hx, Instr.loadAt, Instr.sureAddr, Sem.run_bind, Sem.run_pure, Result.andThen_ok, run_loadVar_mid w q 0 44 e.list _ (hC w hw).range Tryz.underlying44 rfl (infoE e)]; exact ⟨rfl, rfl⟩, hK⟩
theorem quietC {C : World → Prop} {K : Act → Prop} {o : Oper} {a : Act} {x : Operand} {q : Nat} {T : TypeId} (e : Ev) (ho : o.op = .load 48 x) (hx : a.eval x = .pointer (some ⟨q, 0, none⟩)) (hC : ∀ w, C w → Ob w q T e) (hK : K (a.put o.dst (.agg e.arr))) : o.quiet Tryz.prog a C K :=
  ⟨_, fun w hw => by unfold Oper.quietAt execOp; simp only [ho, hx, Instr.loadAt, Instr.sureAddr, Sem.run_bind, Sem.run_pure, Result.andThen_ok, run_loadVar_mid w q 0 48 e.list _ (hC w hw).range Tryz.underlying48 rfl (infoEc e)]; exact ⟨rfl, rfl⟩, hK⟩
theorem obGrown {w1 : World} {q : Nat} {T : TypeId} {e : Ev} (h : Ob w1 q T e) : ∀ W, (∃ p : Regrown, W = grow (redrawn w1 p.d) p.os) → Ob W q T e := by
  rintro W ⟨p, rfl⟩
  exact heapB h (below_regrown w1 p.d p.os) (Array.getElem?_eq_some_iff.1 h).1

end Go.Proofs.YtpkkmfppdhjpkaaGreat
/- Entries by value, the document's: Vote, Accept. -/
namespace Go.Proofs.YtpkkmfppdhjpkaaGreat
set_option linter.unusedVariables false
open Go.RowKit
open Go.Lib (hid)

def accR (e : Ev) (b t : Int) (p : Sv) (full : Bool) : Ev × Int := if full = false ∨ withinB b 1048576 = false ∨ b < 1 then (e, 1) else if b < e.pr then (e, 11) else ({ (resE e t).1 with pr := b, ab := b, xt := t, xp := p }, 0)

end Go.Proofs.YtpkkmfppdhjpkaaGreat


/- A region that draws its order: whole entries loaded and stored in it, one operation at a time; results of two entries and a word. -/

namespace Go.Proofs.YtpkkmfppdhjpkaaGreat
set_option linter.unusedVariables false
open Go.RowKit
open Go.Lib (hid)

theorem wanted_plain {o : Oper} {y : Nat → Option Bool} (hg : o.guard = none) : Region.wanted o y = true := by
  unfold Region.wanted; rw [hg]
theorem ra_start {P : Program} {id n : Nat} {ops : Array Oper} {listed : Array Bool} {Q : Exit → Act → World → Prop} {a : Act} {w : World} (hm : P.follows .mixedOrders = true) (hn : ops.size = n) (hl : Array.replicate n false = listed) (h : wpAny P .any ops Q n listed a w.drew) : (Code.region id ops true).wp P Q a w := by
  subst hn hl
  exact wp_region_any hm h
theorem ra_take {P : Program} {md : Region.Mode} {ops : Array Oper} {i : Nat} {o : Oper} {v : Value} {fuel : Nat} {listed listed' : Array Bool} {a a' : Act} {w : World} {Q : Exit → Act → World → Prop} (hi : ops[i]? = some o) (hs : Region.noSelect ops = true) (hf : Region.free md ops listed i = true) (hr : (Region.ready md ops listed).contains i = true)
    (hQ : ∀ c a w, Q (.panic c) (a.put o.dst v) w → Q (.panic c) a w) (hl : listed.setIfInBounds i true = listed') (hw : Region.wanted o (yielded ops a.tmps) = true) (hv : ∀ w, (execOp a.eval o).run P w = .ok (.value v) w) (ha : a.put o.dst v = a') (h : wpAny P md ops Q fuel listed' a' w) : wpAny P md ops Q (fuel + 1) listed a w := by
  subst hl ha
  exact wpAny_take hi hs hf hr hQ (.inl ⟨hw, hv⟩) h
theorem ra_skip {P : Program} {md : Region.Mode} {ops : Array Oper} {i : Nat} {o : Oper} {fuel : Nat} {listed listed' : Array Bool} {a a' : Act} {w : World} {Q : Exit → Act → World → Prop} (hi : ops[i]? = some o) (hs : Region.noSelect ops = true) (hf : Region.free md ops listed i = true) (hr : (Region.ready md ops listed).contains i = true)
    (hQ : ∀ c a w, Q (.panic c) (a.put o.dst undef) w → Q (.panic c) a w) (hl : listed.setIfInBounds i true = listed') (hw : Region.wanted o (yielded ops a.tmps) = false) (ha : a.put o.dst undef = a') (h : wpAny P md ops Q fuel listed' a' w) : wpAny P md ops Q (fuel + 1) listed a w := by
  subst hl ha
  exact wpAny_take hi hs hf hr hQ (.inr ⟨hw, rfl⟩) h
theorem ra_assign {P : Program} {md : Region.Mode} {ops : Array Oper} {i : Nat} {o : Oper} {rs : List Nat} {fuel : Nat} {listed listed' : Array Bool} {a a' : Act} {w : World} {Q : Exit → Act → World → Prop} {x : Operand} {v : Value} (hi : ops[i]? = some o) (hl : listed.setIfInBounds i true = listed') (hg : o.guard = none) (ho : o.op = .assign x)
    (hv : a.eval x = v) (ha : a.put o.dst v = a') (h : wpAny P md ops Q fuel listed' a' w) (hs : AllReady P md ops Q fuel listed a w rs) : AllReady P md ops Q fuel listed a w (i :: rs) := by
  subst hl ha hv
  refine AllReady.cons hi (fun K hK => ?_) hs
  rw [if_pos (wanted_plain hg)]
  unfold Oper.wp
  rw [BigFrame.run_assign x ho]
  exact hK _ _ h
theorem ra_loadC {md : Region.Mode} {ops : Array Oper} {i : Nat} {o : Oper} {rs : List Nat} {fuel : Nat} {listed listed' : Array Bool} {a a' : Act} {w : World} {Q : Exit → Act → World → Prop} {x : Operand} {b : Nat} {T : TypeId} (e : Ev) (hi : ops[i]? = some o) (hl : listed.setIfInBounds i true = listed') (hg : o.guard = none) (ho : o.op = .load 48 x)
    (hx : a.eval x = .pointer (some ⟨b, 0, none⟩)) (hc : Ob w b T e) (ha : a.put o.dst (.agg e.arr) = a') (h : wpAny Tryz.prog md ops Q fuel listed' a' w) (hs : AllReady Tryz.prog md ops Q fuel listed a w rs) : AllReady Tryz.prog md ops Q fuel listed a w (i :: rs) := by
  subst hl ha
  refine AllReady.cons hi (fun K hK => ?_) hs
  rw [if_pos (wanted_plain hg)]
  exact wp_load_mid 48 x ho b 0 hx e.list _ hc.range Tryz.underlying48 rfl (infoEc e) (hK _ _ h)
theorem ra_storeC {md : Region.Mode} {ops : Array Oper} {i : Nat} {o : Oper} {rs : List Nat} {fuel : Nat} {listed listed' : Array Bool} {a : Act} {w : World} {Q : Exit → Act → World → Prop} {x y : Operand} {b : Nat} {T : TypeId} (e : Ev) (hi : ops[i]? = some o) (hl : listed.setIfInBounds i true = listed') (hg : o.guard = none) (ho : o.op = .store 48 x y)
    (hx : a.eval x = .pointer (some ⟨b, 0, none⟩)) (hy : a.eval y = .agg e.arr) (hd : o.dst = none) (hC : Room w b T) (h : ∀ W, Ob W b T e → Upd b w W → wpAny Tryz.prog md ops Q fuel listed' a W) (hs : AllReady Tryz.prog md ops Q fuel listed a w rs) : AllReady Tryz.prog md ops Q fuel listed a w (i :: rs) := by
  subst hl
  refine AllReady.cons hi (fun K hK => ?_) hs
  rw [if_pos (wanted_plain hg)]
  obtain ⟨C, hC, hz⟩ := hC
  refine wp_store_mid 48 x y ho b 0 e.arr hx hy (thereOf hC (by rw [hz]; exact Nat.le_refl _)) (infoEc' e) (Ev.one e) ?_
  rw [hd]
  exact hK _ _ (h _ (setsOb e hC hz) (setsUpd w b _))
theorem ra_loadR {md : Region.Mode} {ops : Array Oper} {i : Nat} {o : Oper} {rs : List Nat} {fuel : Nat} {listed listed' : Array Bool} {a a' : Act} {w : World} {Q : Exit → Act → World → Prop} {x : Operand} {b : Nat} {T : TypeId} (e : Ev) (hi : ops[i]? = some o) (hl : listed.setIfInBounds i true = listed') (hg : o.guard = none) (ho : o.op = .load 44 x)
    (hx : a.eval x = .pointer (some ⟨b, 0, none⟩)) (hc : Ob w b T e) (ha : a.put o.dst (.agg e.arr) = a') (h : wpAny Tryz.prog md ops Q fuel listed' a' w) (hs : AllReady Tryz.prog md ops Q fuel listed a w rs) : AllReady Tryz.prog md ops Q fuel listed a w (i :: rs) := by
  subst hl ha
  refine AllReady.cons hi (fun K hK => ?_) hs
  rw [if_pos (wanted_plain hg)]
  exact wp_load_mid 44 x ho b 0 hx e.list _ hc.range Tryz.underlying44 rfl (infoE e) (hK _ _ h)
theorem ra_storeR {md : Region.Mode} {ops : Array Oper} {i : Nat} {o : Oper} {rs : List Nat} {fuel : Nat} {listed listed' : Array Bool} {a : Act} {w : World} {Q : Exit → Act → World → Prop} {x y : Operand} {b : Nat} {T : TypeId} (e : Ev) (hi : ops[i]? = some o) (hl : listed.setIfInBounds i true = listed') (hg : o.guard = none) (ho : o.op = .store 44 x y)
    (hx : a.eval x = .pointer (some ⟨b, 0, none⟩)) (hy : a.eval y = .agg e.arr) (hd : o.dst = none) (hC : Room w b T) (h : ∀ W, Ob W b T e → Upd b w W → wpAny Tryz.prog md ops Q fuel listed' a W) (hs : AllReady Tryz.prog md ops Q fuel listed a w rs) : AllReady Tryz.prog md ops Q fuel listed a w (i :: rs) := by
  subst hl
  refine AllReady.cons hi (fun K hK => ?_) hs
  rw [if_pos (wanted_plain hg)]
  obtain ⟨C, hC, hz⟩ := hC
  refine wp_store_mid 44 x y ho b 0 e.arr hx hy (thereOf hC (by rw [hz]; exact Nat.le_refl _)) (infoE' e) (Ev.one e) ?_
  rw [hd]
  exact hK _ _ (h _ (setsOb e hC hz) (setsUpd w b _))
theorem ret_cell2_tmp {P : Program} {fn : Func} {a : Act} {w : World} {p q u : Tmp} {ty ty' : TypeId} {b b' : Nat} {cs cs' : List Value} {d d' : TypeDesc} {v : Value} (h : fn.results = #[.cell p ty, .cell q ty', .tmp u]) (hp : a.tmps.getD p undef = .pointer (some ⟨b, 0, none⟩)) (hq : a.tmps.getD q undef = .pointer (some ⟨b', 0, none⟩)) (hu : a.tmps.getD u undef = v)
    (hc : w.rangeAt b 0 cs) (ht : P.underlying ty = some d) (hd : d.isRow = true) (hi : (P.info? ty).map (·.size) = some cs.length)
    (hc' : w.rangeAt b' 0 cs') (ht' : P.underlying ty' = some d') (hd' : d'.isRow = true) (hi' : (P.info? ty').map (·.size) = some cs'.length) : (results fn a.tmps).run P w = .ok (.tuple #[.agg cs.toArray, .agg cs'.toArray, v]) w := by
  have hr : (results fn a.tmps).run P w = ((asAddr (a.tmps.getD p undef)).run P w).andThen fun x w₁ => ((loadVar ty x).run P w₁).andThen fun v1 w₂ => ((asAddr (a.tmps.getD q undef)).run P w₂).andThen fun y w₃ => ((loadVar ty' y).run P w₃).andThen fun v2 w₄ => .ok (.tuple #[v1, v2, a.tmps.getD u undef]) w₄ := by
    simp only [results, h]
    simp [Sem.run_bind, Result.andThen]
    try (congr 1)
  rw [hr, hp, hq, hu]
  simp [asAddr, run_loadVar_mid w b 0 ty cs d hc ht hd hi, run_loadVar_mid w b' 0 ty' cs' d' hc' ht' hd' hi', Result.andThen]
end Go.Proofs.YtpkkmfppdhjpkaaGreat

/- A region that draws its order, what it found kept all the while: one operation at a time. -/
namespace Go.Proofs.YtpkkmfppdhjpkaaGreat
set_option linter.unusedVariables false
open Go.RowKit
open Go.Lib (hid)

section
variable {P : Program} {md : Region.Mode} {S : World → Prop} {ops : Array Oper} {i : Nat} {o : Oper} {rs : List Nat} {fuel : Nat} {listed listed' : Array Bool} {a a' : Act} {w : World} {Q : Exit → Act → World → Prop}
theorem rh_start {id n : Nat} (hm : P.follows .mixedOrders = true) (hn : ops.size = n) (hl : Array.replicate n false = listed) (h : wpAnyH P .any ops Q S n listed a w.drew) : (Code.region id ops true).wp P Q a w := by
  subst hn hl
  exact wp_region_held hm h
theorem rh_take {v : Value} (hi : ops[i]? = some o) (hs : Region.noSelect ops = true) (hf : Region.free md ops listed i = true) (hr : (Region.ready md ops listed).contains i = true)
    (hQ : ∀ c a w, Q (.panic c) (a.put o.dst v) w → Q (.panic c) a w) (hl : listed.setIfInBounds i true = listed') (hw : Region.wanted o (yielded ops a.tmps) = true) (hv : ∀ w, (execOp a.eval o).run P w = .ok (.value v) w) (ha : a.put o.dst v = a') (hS : S w) (h : wpAnyH P md ops Q S fuel listed' a' w) : wpAnyH P md ops Q S (fuel + 1) listed a w := by
  subst hl ha
  exact wpAnyH_take hi hs hf hr hQ (.inl ⟨hw, fun w _ => hv w⟩) hS h
theorem rh_load {cs : List Value} {d : TypeDesc} {T : TypeId} {x : Operand} {b q : Nat} (hi : ops[i]? = some o) (hs : Region.noSelect ops = true) (hf : Region.free md ops listed i = true) (hr : (Region.ready md ops listed).contains i = true)
    (hQ : ∀ c a w, Q (.panic c) (a.put o.dst (.agg cs.toArray)) w → Q (.panic c) a w) (hl : listed.setIfInBounds i true = listed') (hg : o.guard = none) (ho : o.op = .load T x) (hx : a.eval x = .pointer (some ⟨b, q, none⟩)) (hc : ∀ w, S w → w.rangeAt b q cs) (hu : P.underlying T = some d) (hd : d.isRow = true) (hz : (P.info? T).map (·.size) = some cs.length)
    (ha : a.put o.dst (.agg cs.toArray) = a') (hS : S w) (h : wpAnyH P md ops Q S fuel listed' a' w) : wpAnyH P md ops Q S (fuel + 1) listed a w := by
  subst hl ha
  exact wpAnyH_take hi hs hf hr hQ (yieldsIf_load_mid (wanted_plain hg) T x ho b q hx cs d hc hu hd hz) hS h
theorem rh_cons (hi : ops[i]? = some o) (hl : listed.setIfInBounds i true = listed') (hg : o.guard = none) (h : ∀ K' : Act → World → Prop, Shut (∀ a w, S w → wpAnyH P md ops Q S fuel listed' a w → K' a w) → Oper.wp P o a w K' Q) (hs : AllReadyH P md ops Q S fuel listed a w rs) : AllReadyH P md ops Q S fuel listed a w (i :: rs) := by
  subst hl
  refine AllReadyH.cons hi (fun K' hK => ?_) hs
  rw [if_pos (wanted_plain hg)]
  exact h K' (fun a w h1 h2 => hK.out a w h1 (fun _ => h2))
theorem rh_assign {x : Operand} {v : Value} (hi : ops[i]? = some o) (hl : listed.setIfInBounds i true = listed') (hg : o.guard = none) (ho : o.op = .assign x)
    (hv : a.eval x = v) (ha : a.put o.dst v = a') (hS : S w) (h : wpAnyH P md ops Q S fuel listed' a' w) (hs : AllReadyH P md ops Q S fuel listed a w rs) : AllReadyH P md ops Q S fuel listed a w (i :: rs) := by
  subst ha hv
  refine rh_cons hi hl hg (fun K hK => ?_) hs
  unfold Oper.wp
  rw [BigFrame.run_assign x ho]
  exact hK.out _ _ hS h
end
section
variable {md : Region.Mode} {S : World → Prop} {ops : Array Oper} {i : Nat} {o : Oper} {rs : List Nat} {fuel : Nat} {listed listed' : Array Bool} {a a' : Act} {w : World} {Q : Exit → Act → World → Prop}
theorem rh_storeC {x y : Operand} {b : Nat} {T : TypeId} (e : Ev) (hi : ops[i]? = some o) (hl : listed.setIfInBounds i true = listed') (hg : o.guard = none) (ho : o.op = .store 48 x y)
    (hx : a.eval x = .pointer (some ⟨b, 0, none⟩)) (hy : a.eval y = .agg e.arr) (hd : o.dst = none) (hC : Room w b T) (h : ∀ W, Ob W b T e → Upd b w W → S W ∧ wpAnyH Tryz.prog md ops Q S fuel listed' a W) (hs : AllReadyH Tryz.prog md ops Q S fuel listed a w rs) : AllReadyH Tryz.prog md ops Q S fuel listed a w (i :: rs) := by
  refine rh_cons hi hl hg (fun K hK => ?_) hs
  obtain ⟨C, hC, hz⟩ := hC
  refine wp_store_mid 48 x y ho b 0 e.arr hx hy (thereOf hC (by rw [hz]; exact Nat.le_refl _)) (infoEc' e) (Ev.one e) ?_
  rw [hd]
  obtain ⟨h1, h2⟩ := h _ (setsOb e hC hz) (setsUpd w b _)
  exact hK.out _ _ h1 h2
theorem rh_storeR {x y : Operand} {b : Nat} {T : TypeId} (e : Ev) (hi : ops[i]? = some o) (hl : listed.setIfInBounds i true = listed') (hg : o.guard = none) (ho : o.op = .store 44 x y)
    (hx : a.eval x = .pointer (some ⟨b, 0, none⟩)) (hy : a.eval y = .agg e.arr) (hd : o.dst = none) (hC : Room w b T) (h : ∀ W, Ob W b T e → Upd b w W → S W ∧ wpAnyH Tryz.prog md ops Q S fuel listed' a W) (hs : AllReadyH Tryz.prog md ops Q S fuel listed a w rs) : AllReadyH Tryz.prog md ops Q S fuel listed a w (i :: rs) := by
  refine rh_cons hi hl hg (fun K hK => ?_) hs
  obtain ⟨C, hC, hz⟩ := hC
  refine wp_store_mid 44 x y ho b 0 e.arr hx hy (thereOf hC (by rw [hz]; exact Nat.le_refl _)) (infoE' e) (Ev.one e) ?_
  rw [hd]
  obtain ⟨h1, h2⟩ := h _ (setsOb e hC hz) (setsUpd w b _)
  exact hK.out _ _ h1 h2
theorem rangeA {W : World} {b o : Nat} {u0 u1 u2 u3 : Value} (h0 : W.cell? ⟨b, o, none⟩ = some u0) (h1 : W.cell? ⟨b, o + 1, none⟩ = some u1) (h2 : W.cell? ⟨b, o + 2, none⟩ = some u2) (h3 : W.cell? ⟨b, o + 3, none⟩ = some u3) : W.rangeAt b o [u0, u1, u2, u3] := fun j v hv => by
  match j, hv with
  | 0, hv => cases hv; exact h0
  | 1, hv => cases hv; exact h1
  | 2, hv => cases hv; exact h2
  | 3, hv => cases hv; exact h3
  | _ + 4, hv => cases hv
end
end Go.Proofs.YtpkkmfppdhjpkaaGreat
