/- A region that draws its order, what it found kept all the while: one operation at a time. -/
import Derived.Test.YtmndjdaiailgmaaAny
import Derived.Deep.RegionHeld
namespace Go.Proofs.Ytmndjdaiailgmaa
set_option linter.unusedVariables false
open Go.RowKit
open Go.Lib (hid)

section
variable {P : Program} {md : Region.Mode} {S : World → Prop} {ops : Array Oper} {i : Nat} {o : Oper} {rs : List Nat} {fuel : Nat} {listed listed' : Array Bool} {a a' : Act} {w : World} {Q : Exit → Act → World → Prop}
theorem rh_start {id n : Nat} (hm : P.follows .mixedOrders = true) (hn : ops.size = n) (hl : Array.replicate n false = listed) (h : wpAnyH P .any ops Q S n listed a w.drew) : (Code.region id ops true).wp P Q a w := by
  subst hn hl
  exact wp_region_held hm h
theorem rh_take {v : Value} (hi : ops[i]? = some o) (hs : Region.noSelect ops = true) (hf : Region.free md ops listed i = true) (hr : (Region.ready md ops listed).contains i = true)
    (hQ : ∀ c a w, Q (.panic c) (a.put o.dst v) w → Q (.panic c) a w) (hl : listed.setIfInBounds i true = listed') (hw : Region.wanted o (yielded ops a.tmps) = true) (hv : ∀ w, (execOp a.eval o).run P w = .ok (.value v) w) (ha : a.put o.dst v = a') (hS : S w) (h : wpAnyH P md ops Q S fuel listed' a' w) : wpAnyH P md ops Q S (fuel + 1) listed a w := by
  subst hl ha
  exact wpAnyH_take hi hs hf hr hQ (.inl ⟨hw, fun w _ => hv w⟩) hS h
theorem rh_load {cs : List Value} {d : TypeDesc} {T : TypeId} {x : Operand} {b q : Nat} (hi : ops[i]? = some o) (hs : Region.noSelect ops = true) (hf : Region.free md ops listed i = true) (hr : (Region.ready md ops listed).contains i = true)
    (hQ : ∀ c a w, Q (.panic c) (a.put o.dst (.agg cs.toArray)) w → Q (.panic c) a w) (hl : listed.setIfInBounds i true = listed') (hg : o.guard = none) (ho : o.op = .load T x) (hx : a.eval x = .pointer (some ⟨b, q, none⟩)) (hc : ∀ w, S w → w.rangeAt b q cs) (hu : P.underlying T = some d) (hd : d.isRow = true) (hz : (P.info? T).map (·.size) = some cs.length)
    (ha : a.put o.dst (.agg cs.toArray) = a') (hS : S w) (h : wpAnyH P md ops Q S fuel listed' a' w) : wpAnyH P md ops Q S (fuel + 1) listed a w := by
  subst hl ha
  exact wpAnyH_take hi hs hf hr hQ (yieldsIf_load_mid (wanted_plain hg) T x ho b q hx cs d hc hu hd hz) hS h
theorem rh_cons (hi : ops[i]? = some o) (hl : listed.setIfInBounds i true = listed') (hg : o.guard = none) (h : ∀ K' : Act → World → Prop, Shut (∀ a w, S w → wpAnyH P md ops Q S fuel listed' a w → K' a w) → Oper.wp P o a w K' Q) (hs : AllReadyH P md ops Q S fuel listed a w rs) : AllReadyH P md ops Q S fuel listed a w (i :: rs) := by
  subst hl
  refine AllReadyH.cons hi (fun K' hK => ?_) hs
  rw [if_pos (wanted_plain hg)]
  exact h K' (fun a w h1 h2 => hK.out a w h1 (fun _ => h2))
theorem rh_assign {x : Operand} {v : Value} (hi : ops[i]? = some o) (hl : listed.setIfInBounds i true = listed') (hg : o.guard = none) (ho : o.op = .assign x)
    (hv : a.eval x = v) (ha : a.put o.dst v = a') (hS : S w) (h : wpAnyH P md ops Q S fuel listed' a' w) (hs : AllReadyH P md ops Q S fuel listed a w rs) : AllReadyH P md ops Q S fuel listed a w (i :: rs) := by
  subst ha hv
  refine rh_cons hi hl hg (fun K hK => ?_) hs
  unfold Oper.wp
  rw [BigFrame.run_assign x ho]
  exact hK.out _ _ hS h
end
section
variable {md : Region.Mode} {S : World → Prop} {ops : Array Oper} {i : Nat} {o : Oper} {rs : List Nat} {fuel : Nat} {listed listed' : Array Bool} {a a' : Act} {w : World} {Q : Exit → Act → World → Prop}
theorem rh_storeC {x y : Operand} {b : Nat} {T : TypeId} (e : Ev) (hi : ops[i]? = some o) (hl : listed.setIfInBounds i true = listed') (hg : o.guard = none) (ho : o.op = .store 30 x y)
    (hx : a.eval x = .pointer (some ⟨b, 0, none⟩)) (hy : a.eval y = .agg e.arr) (hd : o.dst = none) (hC : Room w b T) (h : ∀ W, Ob W b T e → Upd b w W → S W ∧ wpAnyH Try.prog md ops Q S fuel listed' a W) (hs : AllReadyH Try.prog md ops Q S fuel listed a w rs) : AllReadyH Try.prog md ops Q S fuel listed a w (i :: rs) := by
  refine rh_cons hi hl hg (fun K hK => ?_) hs
  obtain ⟨C, hC, hz⟩ := hC
  refine wp_store_mid 30 x y ho b 0 e.arr hx hy (thereOf hC (by rw [hz]; exact Nat.le_refl _)) (infoEc' e) (Ev.one e) ?_
  rw [hd]
  obtain ⟨h1, h2⟩ := h _ (setsOb e hC hz) (setsUpd w b _)
  exact hK.out _ _ h1 h2
theorem rh_storeR {x y : Operand} {b : Nat} {T : TypeId} (e : Ev) (hi : ops[i]? = some o) (hl : listed.setIfInBounds i true = listed') (hg : o.guard = none) (ho : o.op = .store 36 x y)
    (hx : a.eval x = .pointer (some ⟨b, 0, none⟩)) (hy : a.eval y = .agg e.arr) (hd : o.dst = none) (hC : Room w b T) (h : ∀ W, Ob W b T e → Upd b w W → S W ∧ wpAnyH Try.prog md ops Q S fuel listed' a W) (hs : AllReadyH Try.prog md ops Q S fuel listed a w rs) : AllReadyH Try.prog md ops Q S fuel listed a w (i :: rs) := by
  refine rh_cons hi hl hg (fun K hK => ?_) hs
  obtain ⟨C, hC, hz⟩ := hC
  refine wp_store_mid 36 x y ho b 0 e.arr hx hy (thereOf hC (by rw [hz]; exact Nat.le_refl _)) (infoE' e) (Ev.one e) ?_
  rw [hd]
  obtain ⟨h1, h2⟩ := h _ (setsOb e hC hz) (setsUpd w b _)
  exact hK.out _ _ h1 h2
theorem infoA : (Try.prog.info? 35).map (·.size) = some 4 := by kernel_rfl
theorem rangeA {W : World} {b o : Nat} {u0 u1 u2 u3 : Value} (h0 : W.cell? ⟨b, o, none⟩ = some u0) (h1 : W.cell? ⟨b, o + 1, none⟩ = some u1) (h2 : W.cell? ⟨b, o + 2, none⟩ = some u2) (h3 : W.cell? ⟨b, o + 3, none⟩ = some u3) : W.rangeAt b o [u0, u1, u2, u3] := fun j v hv => by
  match j, hv with
  | 0, hv => cases hv; exact h0
  | 1, hv => cases hv; exact h1
  | 2, hv => cases hv; exact h2
  | 3, hv => cases hv; exact h3
  | _ + 4, hv => cases hv
end
end Go.Proofs.Ytmndjdaiailgmaa
