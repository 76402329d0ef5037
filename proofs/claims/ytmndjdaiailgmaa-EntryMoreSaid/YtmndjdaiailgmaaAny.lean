/- A region that draws its order: whole entries loaded and stored in it, one operation at a time; results of two entries and a word. -/
import Derived.Test.YtmndjdaiailgmaaCRightE
import Derived.Test.YtmndjdaiailgmaaRAcc
namespace Go.Proofs.Ytmndjdaiailgmaa
set_option linter.unusedVariables false
open Go.RowKit
open Go.Lib (hid)

theorem wanted_plain {o : Oper} {y : Nat → Option Bool} (hg : o.guard = none) : Region.wanted o y = true := by
  unfold Region.wanted; rw [hg]
theorem ra_start {P : Program} {id n : Nat} {ops : Array Oper} {listed : Array Bool} {Q : Exit → Act → World → Prop} {a : Act} {w : World} (hm : P.follows .mixedOrders = true) (hn : ops.size = n) (hl : Array.replicate n false = listed) (h : wpAny P .any ops Q n listed a w.drew) : (Code.region id ops true).wp P Q a w := by
  subst hn hl
  exact wp_region_any hm h
theorem ra_take {P : Program} {md : Region.Mode} {ops : Array Oper} {i : Nat} {o : Oper} {v : Value} {fuel : Nat} {listed listed' : Array Bool} {a a' : Act} {w : World} {Q : Exit → Act → World → Prop} (hi : ops[i]? = some o) (hs : Region.noSelect ops = true) (hf : Region.free md ops listed i = true) (hr : (Region.ready md ops listed).contains i = true)
    (hQ : ∀ c a w, Q (.panic c) (a.put o.dst v) w → Q (.panic c) a w) (hl : listed.setIfInBounds i true = listed') (hw : Region.wanted o (yielded ops a.tmps) = true) (hv : ∀ w, (execOp a.eval o).run P w = .ok (.value v) w) (ha : a.put o.dst v = a') (h : wpAny P md ops Q fuel listed' a' w) : wpAny P md ops Q (fuel + 1) listed a w := by
  subst hl ha
  exact wpAny_take hi hs hf hr hQ (.inl ⟨hw, hv⟩) h
theorem ra_skip {P : Program} {md : Region.Mode} {ops : Array Oper} {i : Nat} {o : Oper} {fuel : Nat} {listed listed' : Array Bool} {a a' : Act} {w : World} {Q : Exit → Act → World → Prop} (hi : ops[i]? = some o) (hs : Region.noSelect ops = true) (hf : Region.free md ops listed i = true) (hr : (Region.ready md ops listed).contains i = true)
    (hQ : ∀ c a w, Q (.panic c) (a.put o.dst undef) w → Q (.panic c) a w) (hl : listed.setIfInBounds i true = listed') (hw : Region.wanted o (yielded ops a.tmps) = false) (ha : a.put o.dst undef = a') (h : wpAny P md ops Q fuel listed' a' w) : wpAny P md ops Q (fuel + 1) listed a w := by
  subst hl ha
  exact wpAny_take hi hs hf hr hQ (.inr ⟨hw, rfl⟩) h
theorem ra_assign {P : Program} {md : Region.Mode} {ops : Array Oper} {i : Nat} {o : Oper} {rs : List Nat} {fuel : Nat} {listed listed' : Array Bool} {a a' : Act} {w : World} {Q : Exit → Act → World → Prop} {x : Operand} {v : Value} (hi : ops[i]? = some o) (hl : listed.setIfInBounds i true = listed') (hg : o.guard = none) (ho : o.op = .assign x)
    (hv : a.eval x = v) (ha : a.put o.dst v = a') (h : wpAny P md ops Q fuel listed' a' w) (hs : AllReady P md ops Q fuel listed a w rs) : AllReady P md ops Q fuel listed a w (i :: rs) := by
  subst hl ha hv
  refine AllReady.cons hi (fun K hK => ?_) hs
  rw [if_pos (wanted_plain hg)]
  unfold Oper.wp
  rw [BigFrame.run_assign x ho]
  exact hK _ _ h
theorem ra_loadC {md : Region.Mode} {ops : Array Oper} {i : Nat} {o : Oper} {rs : List Nat} {fuel : Nat} {listed listed' : Array Bool} {a a' : Act} {w : World} {Q : Exit → Act → World → Prop} {x : Operand} {b : Nat} {T : TypeId} (e : Ev) (hi : ops[i]? = some o) (hl : listed.setIfInBounds i true = listed') (hg : o.guard = none) (ho : o.op = .load 30 x)
    (hx : a.eval x = .pointer (some ⟨b, 0, none⟩)) (hc : Ob w b T e) (ha : a.put o.dst (.agg e.arr) = a') (h : wpAny Try.prog md ops Q fuel listed' a' w) (hs : AllReady Try.prog md ops Q fuel listed a w rs) : AllReady Try.prog md ops Q fuel listed a w (i :: rs) := by
  subst hl ha
  refine AllReady.cons hi (fun K hK => ?_) hs
  rw [if_pos (wanted_plain hg)]
  exact wp_load_mid 30 x ho b 0 hx e.list _ hc.range Try.underlying30 rfl (infoEc e) (hK _ _ h)
theorem ra_storeC {md : Region.Mode} {ops : Array Oper} {i : Nat} {o : Oper} {rs : List Nat} {fuel : Nat} {listed listed' : Array Bool} {a : Act} {w : World} {Q : Exit → Act → World → Prop} {x y : Operand} {b : Nat} {T : TypeId} (e : Ev) (hi : ops[i]? = some o) (hl : listed.setIfInBounds i true = listed') (hg : o.guard = none) (ho : o.op = .store 30 x y)
    (hx : a.eval x = .pointer (some ⟨b, 0, none⟩)) (hy : a.eval y = .agg e.arr) (hd : o.dst = none) (hC : Room w b T) (h : ∀ W, Ob W b T e → Upd b w W → wpAny Try.prog md ops Q fuel listed' a W) (hs : AllReady Try.prog md ops Q fuel listed a w rs) : AllReady Try.prog md ops Q fuel listed a w (i :: rs) := by
  subst hl
  refine AllReady.cons hi (fun K hK => ?_) hs
  rw [if_pos (wanted_plain hg)]
  obtain ⟨C, hC, hz⟩ := hC
  refine wp_store_mid 30 x y ho b 0 e.arr hx hy (thereOf hC (by rw [hz]; exact Nat.le_refl _)) (infoEc' e) (Ev.one e) ?_
  rw [hd]
  exact hK _ _ (h _ (setsOb e hC hz) (setsUpd w b _))
theorem ra_loadR {md : Region.Mode} {ops : Array Oper} {i : Nat} {o : Oper} {rs : List Nat} {fuel : Nat} {listed listed' : Array Bool} {a a' : Act} {w : World} {Q : Exit → Act → World → Prop} {x : Operand} {b : Nat} {T : TypeId} (e : Ev) (hi : ops[i]? = some o) (hl : listed.setIfInBounds i true = listed') (hg : o.guard = none) (ho : o.op = .load 36 x)
    (hx : a.eval x = .pointer (some ⟨b, 0, none⟩)) (hc : Ob w b T e) (ha : a.put o.dst (.agg e.arr) = a') (h : wpAny Try.prog md ops Q fuel listed' a' w) (hs : AllReady Try.prog md ops Q fuel listed a w rs) : AllReady Try.prog md ops Q fuel listed a w (i :: rs) := by
  subst hl ha
  refine AllReady.cons hi (fun K hK => ?_) hs
  rw [if_pos (wanted_plain hg)]
  exact wp_load_mid 36 x ho b 0 hx e.list _ hc.range Try.underlying36 rfl (infoE e) (hK _ _ h)
theorem ra_storeR {md : Region.Mode} {ops : Array Oper} {i : Nat} {o : Oper} {rs : List Nat} {fuel : Nat} {listed listed' : Array Bool} {a : Act} {w : World} {Q : Exit → Act → World → Prop} {x y : Operand} {b : Nat} {T : TypeId} (e : Ev) (hi : ops[i]? = some o) (hl : listed.setIfInBounds i true = listed') (hg : o.guard = none) (ho : o.op = .store 36 x y)
    (hx : a.eval x = .pointer (some ⟨b, 0, none⟩)) (hy : a.eval y = .agg e.arr) (hd : o.dst = none) (hC : Room w b T) (h : ∀ W, Ob W b T e → Upd b w W → wpAny Try.prog md ops Q fuel listed' a W) (hs : AllReady Try.prog md ops Q fuel listed a w rs) : AllReady Try.prog md ops Q fuel listed a w (i :: rs) := by
  subst hl
  refine AllReady.cons hi (fun K hK => ?_) hs
  rw [if_pos (wanted_plain hg)]
  obtain ⟨C, hC, hz⟩ := hC
  refine wp_store_mid 36 x y ho b 0 e.arr hx hy (thereOf hC (by rw [hz]; exact Nat.le_refl _)) (infoE' e) (Ev.one e) ?_
  rw [hd]
  exact hK _ _ (h _ (setsOb e hC hz) (setsUpd w b _))
theorem ret_cell2_tmp {P : Program} {fn : Func} {a : Act} {w : World} {p q u : Tmp} {ty ty' : TypeId} {b b' : Nat} {cs cs' : List Value} {d d' : TypeDesc} {v : Value} (h : fn.results = #[.cell p ty, .cell q ty', .tmp u]) (hp : a.tmps.getD p undef = .pointer (some ⟨b, 0, none⟩)) (hq : a.tmps.getD q undef = .pointer (some ⟨b', 0, none⟩)) (hu : a.tmps.getD u undef = v)
    (hc : w.rangeAt b 0 cs) (ht : P.underlying ty = some d) (hd : d.isRow = true) (hi : (P.info? ty).map (·.size) = some cs.length)
    (hc' : w.rangeAt b' 0 cs') (ht' : P.underlying ty' = some d') (hd' : d'.isRow = true) (hi' : (P.info? ty').map (·.size) = some cs'.length) : (results fn a.tmps).run P w = .ok (.tuple #[.agg cs.toArray, .agg cs'.toArray, v]) w := by
  have hr : (results fn a.tmps).run P w = ((asAddr (a.tmps.getD p undef)).run P w).andThen fun x w₁ => ((loadVar ty x).run P w₁).andThen fun v1 w₂ => ((asAddr (a.tmps.getD q undef)).run P w₂).andThen fun y w₃ => ((loadVar ty' y).run P w₃).andThen fun v2 w₄ => .ok (.tuple #[v1, v2, a.tmps.getD u undef]) w₄ := by
    simp only [results, h]
    simp [Sem.run_bind, Result.andThen]
    try (congr 1)
  rw [hr, hp, hq, hu]
  simp [asAddr, run_loadVar_mid w b 0 ty cs d hc ht hd hi, run_loadVar_mid w b' 0 ty' cs' d' hc' ht' hd' hi', Result.andThen]
end Go.Proofs.Ytmndjdaiailgmaa
