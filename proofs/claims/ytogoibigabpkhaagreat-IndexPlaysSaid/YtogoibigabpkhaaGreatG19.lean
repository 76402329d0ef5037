import Derived.Test.YtogoibigabpkhaaGreatG18
import Derived.Deep.QuietTactic
import Derived.BigQuiet
import Derived.StillTailTactics
import Derived.WalkSpells
import Derived.Test.YtogoibigabpkhaaGreatG15
import Derived.Test.YtogoibigabpkhaaGreatG17
import Derived.Deep.RegionHeld
/- The program's index: what is told of it; See, Tick. -/
namespace Go.Proofs.YtogoibigabpkhaaGreat
set_option linter.unusedVariables false
open Go.RowKit
open Go.Lib (hid)

theorem eqMapNil (a : Nat) (w : World) : (binOp .neq 69 (.map (some a)) (.map none)).run Tryz.prog w = .ok (.bool true) w := by
  simp only [binOp]
  simp [Op.equal, Op.maxDepth, run_equalIn_map_nil w 9999 69 3 44 (some a) Tryz.underlying69, Result.andThen]
set_option maxHeartbeats 1000000 in
set_option maxRecDepth 100000 in
theorem cMade {w : World} {x b b2 n : Nat} {nd c : Int} {xs : List En} {ids : List Int} (h : Ix w x b b2 n nd c xs ids) : Calls Tryz.prog 41 #[ptr x] w fun e w' => e = .returned (.bool true) ∧ w = w' := by
  obtain ⟨k0, k1, k2, k3, f1⟩ := h.cells
  have hE := eqMapNil
  clear h
  go_enter Tryz.func41, Tryz.ntmps41
  go_wp2
  go_ret
  exact ⟨rfl, rfl⟩
theorem cMade_nil (w : World) : Calls Tryz.prog 41 #[.pointer none] w fun e w' => e = .returned (.bool false) ∧ w = w' := by
  go_enter Tryz.func41, Tryz.ntmps41
  go_wp2
  go_ret
  exact ⟨rfl, rfl⟩
theorem cNode {w : World} {x b b2 n : Nat} {nd c : Int} {xs : List En} {ids : List Int} (h : Ix w x b b2 n nd c xs ids) : Calls Tryz.prog 15 #[ptr x] w fun e w' => e = .returned (.int .i64 nd) ∧ w = w' := by
  have hM := cMade h
  obtain ⟨k0, k1, k2, k3, f1⟩ := h.cells
  clear h
  go_enter Tryz.func15, Tryz.ntmps15
  go_wp2_with (go_at_call 41; refine hM.mono ?_; rintro e w' ⟨rfl, rfl⟩)
  go_ret
  exact ⟨rfl, rfl⟩
theorem cNode_nil (w : World) : Calls Tryz.prog 15 #[.pointer none] w fun e w' => e = .returned (.int .i64 (-1)) ∧ w = w' := by
  have hM := cMade_nil w
  go_enter Tryz.func15, Tryz.ntmps15
  go_wp2_with (go_at_call 41; refine hM.mono ?_; rintro e w' ⟨rfl, rfl⟩)
  go_ret
  exact ⟨rfl, rfl⟩
theorem cClock {w : World} {x b b2 n : Nat} {nd c : Int} {xs : List En} {ids : List Int} (h : Ix w x b b2 n nd c xs ids) : Calls Tryz.prog 14 #[ptr x] w fun e w' => e = .returned (.int .i64 c) ∧ w = w' := by
  have hM := cMade h
  obtain ⟨k0, k1, k2, k3, f1⟩ := h.cells
  clear h
  go_enter Tryz.func14, Tryz.ntmps14
  go_wp2_with (go_at_call 41; refine hM.mono ?_; rintro e w' ⟨rfl, rfl⟩)
  go_ret
  exact ⟨rfl, rfl⟩
theorem cClock_nil (w : World) : Calls Tryz.prog 14 #[.pointer none] w fun e w' => e = .returned (.int .i64 0) ∧ w = w' := by
  have hM := cMade_nil w
  go_enter Tryz.func14, Tryz.ntmps14
  go_wp2_with (go_at_call 41; refine hM.mono ?_; rintro e w' ⟨rfl, rfl⟩)
  go_ret
  exact ⟨rfl, rfl⟩
/-- The clock behind a timestamp that was seen. -/
def seeI (c t : Int) : Int := if c < countI t then countI t else c
theorem see_bd {c t : Int} (h : 0 ≤ c ∧ c ≤ 65535) : 0 ≤ seeI c t ∧ seeI c t ≤ 65535 := by
  have := count_bd t
  unfold seeI; split <;> omega
set_option maxHeartbeats 1000000 in
set_option maxRecDepth 100000 in
theorem cSee {w : World} {x b b2 n : Nat} {nd c : Int} {xs : List En} {ids : List Int} (h : Ix w x b b2 n nd c xs ids) (t : Int) :
    Calls Tryz.prog 16 #[ptr x, .int .i64 t] w fun e w' => e = .returned (.tuple #[]) ∧ Ix w' x b b2 n nd (seeI c t) xs ids ∧ Tch (fun k => k = x) w w' := by
  have hM := cMade h
  have hC := fun W => (sCount_any t W).mono (fun e w' (h : e = _ ∧ W = w') => And.intro h.1 h.2.symm)
  have HX : Hid (Ix w.drew x b b2 n nd c xs ids) := hid (h.on (belowDrew (Below.refl _ w)))
  have HT : Hid (Tch (fun k => k = x) w w.drew) := hid (Tch.ofBelow (belowDrew (Below.refl _ w)))
  obtain ⟨k, hk⟩ : ∃ k, k = countI t := ⟨_, rfl⟩
  have HS := hid (show seeI c t = if c < k then k else c by rw [hk]; rfl)
  rw [← hk] at hC
  clear h hk
  go_enter Tryz.func16, Tryz.ntmps16
  go_wp2_with (go_at_call 41; refine hM.mono ?_; rintro e w' ⟨rfl, rfl⟩)
  refine wp_region_still_tail 10 (by kernel_rfl) (by kernel_rfl) ?_
  obtain ⟨W1, hW1⟩ : ∃ W1 : World, W1 = { w with drawn := w.drawn + 1 } := ⟨_, rfl⟩
  rw [← hW1]
  replace HX : Hid (Ix W1 x b b2 n nd c xs ids) := hid (by rw [hW1]; exact HX.out)
  replace HT : Hid (Tch (fun k => k = x) w W1) := hid (by rw [hW1]; exact HT.out)
  clear hW1
  obtain ⟨k0, k1, k2, k3, f1⟩ := HX.out.cells
  simp only [List.take_succ_cons, List.take_zero, List.drop_succ_cons, List.drop_zero]
  still_step
  still_step
  still_step
  still_step
  still_step
  still_step
  still_call (hC _)
  still_step
  still_step
  still_step
  refine wpStill_nil ?_
  rw [← HS.out]
  go_wp2_with fail
  go_end0
  obtain ⟨h1, h2⟩ := HX.out.clock (seeI c t)
  exact ⟨rfl, h1, HT.out.trans h2⟩
theorem cSee_nil (t : Int) (w : World) : Calls Tryz.prog 16 #[.pointer none, .int .i64 t] w fun e w' => e = .returned (.tuple #[]) ∧ w = w' := by
  have hM := cMade_nil w
  go_enter Tryz.func16, Tryz.ntmps16
  go_wp2_with (go_at_call 41; refine hM.mono ?_; rintro e w' ⟨rfl, rfl⟩)
  go_end0
  exact ⟨rfl, rfl⟩
set_option maxHeartbeats 1000000 in
set_option maxRecDepth 100000 in
theorem cTick {w : World} {x b b2 n : Nat} {nd c : Int} {xs : List En} {ids : List Int} (h : Ix w x b b2 n nd c xs ids) (hc : 0 ≤ c ∧ c ≤ 65535) :
    Calls Tryz.prog 17 #[ptr x] w fun e w' => e = .returned (two (mkV (c + 1) nd) (mkE (c + 1) nd)) ∧ Ix w' x b b2 n nd (if mkE (c + 1) nd = 0 then c + 1 else c) xs ids ∧ Tch (fun k => k = x) w w' := by
  have hM := cMade h
  have hT := fun W => (sMake_any (c + 1) nd W)
  have hz : mkE (c + 1) nd ≠ 0 → mkV (c + 1) nd = 0 := by unfold mkE mkV; intro h; repeat' split <;> first | omega | simp_all
  obtain ⟨e, he⟩ : ∃ e, e = mkE (c + 1) nd := ⟨_, rfl⟩
  obtain ⟨v, hv⟩ : ∃ v, v = mkV (c + 1) nd := ⟨_, rfl⟩
  rw [← he, ← hv] at hT hz
  rw [← he, ← hv]
  have HX : Hid (Ix w x b b2 n nd c xs ids) := hid h
  have hw : IntKind.i64.wrap (c + 1) = c + 1 := by rw [IntKind.wrap_i64]; omega
  obtain ⟨k0, k1, k2, k3, f1⟩ := h.cells
  have HZ := hid hz
  have h0 : e = 0 ∨ e ≠ 0 := by omega
  clear h he hv hz
  go_enter Tryz.func17, Tryz.ntmps17
  go_wp2_with (go_at_call 41; refine hM.mono ?_; rintro e w' ⟨rfl, rfl⟩)
  go_quiet (with_reducible exact quietS (hT _))
  obtain ⟨W1, hW1⟩ : ∃ W, W = w.drewN nq := ⟨_, rfl⟩
  rw [← hW1]
  replace HX : Hid (Ix W1 x b b2 n nd c xs ids ∧ Tch (fun k => k = x) w W1) := hid (by rw [hW1]; exact ⟨HX.out.on (belowDrewN (Below.refl _ w) nq), Tch.ofBelow (belowDrewN (Below.refl _ w) nq)⟩)
  clear hW1 k0 k1 k2 k3 f1
  obtain ⟨k0, k1, k2, k3, f1⟩ := HX.out.1.cells
  rcases h0 with h0 | h0
  · subst h0
    go_wp2_with fail
    go_ret2
    obtain ⟨h1, h2⟩ := HX.out.1.clock (c + 1)
    exact ⟨rfl, h1, HX.out.2.trans h2⟩
  · obtain rfl := HZ.out h0
    have h3 : (e == 0) = false := by simpa using h0
    go_wp2_with fail
    go_ret2
    exact ⟨rfl, HX.out.1, HX.out.2⟩
theorem cTick_nil (w : World) : Calls Tryz.prog 17 #[.pointer none] w fun e w' => e = .returned (two 0 1) ∧ w = w' := by
  have hM := cMade_nil w
  go_enter Tryz.func17, Tryz.ntmps17
  go_wp2_with (go_at_call 41; refine hM.mono ?_; rintro e w' ⟨rfl, rfl⟩)
  go_ret2
  exact ⟨rfl, rfl⟩
end Go.Proofs.YtogoibigabpkhaaGreat
/- Entries by value, the document's: Vote, Accept. -/
namespace Go.Proofs.YtogoibigabpkhaaGreat
set_option linter.unusedVariables false
open Go.RowKit
open Go.Lib (hid)

def accR (e : Ev) (b t : Int) (p : Sv) (full : Bool) : Ev × Int := if full = false ∨ withinB b 1048576 = false ∨ b < 1 then (e, 1) else if b < e.pr then (e, 11) else ({ (resE e t).1 with pr := b, ab := b, xt := t, xp := p }, 0)

end Go.Proofs.YtogoibigabpkhaaGreat


/- A region that draws its order: whole entries loaded and stored in it, one operation at a time; results of two entries and a word. -/

namespace Go.Proofs.YtogoibigabpkhaaGreat
set_option linter.unusedVariables false
open Go.RowKit
open Go.Lib (hid)

theorem wanted_plain {o : Oper} {y : Nat → Option Bool} (hg : o.guard = none) : Region.wanted o y = true := by
  unfold Region.wanted; rw [hg]
theorem ra_start {P : Program} {id n : Nat} {ops : Array Oper} {listed : Array Bool} {Q : Exit → Act → World → Prop} {a : Act} {w : World} (hm : P.follows .mixedOrders = true) (hn : ops.size = n) (hl : Array.replicate n false = listed) (h : wpAny P .any ops Q n listed a w.drew) : (Code.region id ops true).wp P Q a w := by
  subst hn hl
  exact wp_region_any hm h
theorem ra_take {P : Program} {md : Region.Mode} {ops : Array Oper} {i : Nat} {o : Oper} {v : Value} {fuel : Nat} {listed listed' : Array Bool} {a a' : Act} {w : World} {Q : Exit → Act → World → Prop} (hi : ops[i]? = some o) (hs : Region.noSelect ops = true) (hf : Region.free md ops listed i = true) (hr : (Region.ready md ops listed).contains i = true)
    (hQ : ∀ c a w, Q (.panic c) (a.put o.dst v) w → Q (.panic c) a w) (hl : listed.setIfInBounds i true = listed') (hw : Region.wanted o (yielded ops a.tmps) = true) (hv : ∀ w, (execOp a.eval o).run P w = .ok (.value v) w) (ha : a.put o.dst v = a') (h : wpAny P md ops Q fuel listed' a' w) : wpAny P md ops Q (fuel + 1) listed a w := by
  subst hl ha
  exact wpAny_take hi hs hf hr hQ (.inl ⟨hw, hv⟩) h
theorem ra_skip {P : Program} {md : Region.Mode} {ops : Array Oper} {i : Nat} {o : Oper} {fuel : Nat} {listed listed' : Array Bool} {a a' : Act} {w : World} {Q : Exit → Act → World → Prop} (hi : ops[i]? = some o) (hs : Region.noSelect ops = true) (hf : Region.free md ops listed i = true) (hr : (Region.ready md ops listed).contains i = true)
    (hQ : ∀ c a w, Q (.panic c) (a.put o.dst undef) w → Q (.panic c) a w) (hl : listed.setIfInBounds i true = listed') (hw : Region.wanted o (yielded ops a.tmps) = false) (ha : a.put o.dst undef = a') (h : wpAny P md ops Q fuel listed' a' w) : wpAny P md ops Q (fuel + 1) listed a w := by
  subst hl ha
  exact wpAny_take hi hs hf hr hQ (.inr ⟨hw, rfl⟩) h
theorem ra_assign {P : Program} {md : Region.Mode} {ops : Array Oper} {i : Nat} {o : Oper} {rs : List Nat} {fuel : Nat} {listed listed' : Array Bool} {a a' : Act} {w : World} {Q : Exit → Act → World → Prop} {x : Operand} {v : Value} (hi : ops[i]? = some o) (hl : listed.setIfInBounds i true = listed') (hg : o.guard = none) (ho : o.op = .assign x)
    (hv : a.eval x = v) (ha : a.put o.dst v = a') (h : wpAny P md ops Q fuel listed' a' w) (hs : AllReady P md ops Q fuel listed a w rs) : AllReady P md ops Q fuel listed a w (i :: rs) := by
  subst hl ha hv
  refine AllReady.cons hi (fun K hK => ?_) hs
  rw [if_pos (wanted_plain hg)]
  unfold Oper.wp
  rw [BigFrame.run_assign x ho]
  exact hK _ _ h
theorem ra_loadC {md : Region.Mode} {ops : Array Oper} {i : Nat} {o : Oper} {rs : List Nat} {fuel : Nat} {listed listed' : Array Bool} {a a' : Act} {w : World} {Q : Exit → Act → World → Prop} {x : Operand} {b : Nat} {T : TypeId} (e : Ev) (hi : ops[i]? = some o) (hl : listed.setIfInBounds i true = listed') (hg : o.guard = none) (ho : o.op = .load 44 x)
    (hx : a.eval x = .pointer (some ⟨b, 0, none⟩)) (hc : Ob w b T e) (ha : a.put o.dst (.agg e.arr) = a') (h : wpAny Tryz.prog md ops Q fuel listed' a' w) (hs : AllReady Tryz.prog md ops Q fuel listed a w rs) : AllReady Tryz.prog md ops Q fuel listed a w (i :: rs) := by
  subst hl ha
  refine AllReady.cons hi (fun K hK => ?_) hs
  rw [if_pos (wanted_plain hg)]
  exact wp_load_mid 44 x ho b 0 hx e.list _ hc.range Tryz.underlying44 rfl (infoEc e) (hK _ _ h)
theorem ra_storeC {md : Region.Mode} {ops : Array Oper} {i : Nat} {o : Oper} {rs : List Nat} {fuel : Nat} {listed listed' : Array Bool} {a : Act} {w : World} {Q : Exit → Act → World → Prop} {x y : Operand} {b : Nat} {T : TypeId} (e : Ev) (hi : ops[i]? = some o) (hl : listed.setIfInBounds i true = listed') (hg : o.guard = none) (ho : o.op = .store 44 x y)
    (hx : a.eval x = .pointer (some ⟨b, 0, none⟩)) (hy : a.eval y = .agg e.arr) (hd : o.dst = none) (hC : Room w b T) (h : ∀ W, Ob W b T e → Upd b w W → wpAny Tryz.prog md ops Q fuel listed' a W) (hs : AllReady Tryz.prog md ops Q fuel listed a w rs) : AllReady Tryz.prog md ops Q fuel listed a w (i :: rs) := by
  subst hl
  refine AllReady.cons hi (fun K hK => ?_) hs
  rw [if_pos (wanted_plain hg)]
  obtain ⟨C, hC, hz⟩ := hC
  refine wp_store_mid 44 x y ho b 0 e.arr hx hy (thereOf hC (by rw [hz]; exact Nat.le_refl _)) (infoEc' e) (Ev.one e) ?_
  rw [hd]
  exact hK _ _ (h _ (setsOb e hC hz) (setsUpd w b _))
theorem ra_loadR {md : Region.Mode} {ops : Array Oper} {i : Nat} {o : Oper} {rs : List Nat} {fuel : Nat} {listed listed' : Array Bool} {a a' : Act} {w : World} {Q : Exit → Act → World → Prop} {x : Operand} {b : Nat} {T : TypeId} (e : Ev) (hi : ops[i]? = some o) (hl : listed.setIfInBounds i true = listed') (hg : o.guard = none) (ho : o.op = .load 74 x)
    (hx : a.eval x = .pointer (some ⟨b, 0, none⟩)) (hc : Ob w b T e) (ha : a.put o.dst (.agg e.arr) = a') (h : wpAny Tryz.prog md ops Q fuel listed' a' w) (hs : AllReady Tryz.prog md ops Q fuel listed a w rs) : AllReady Tryz.prog md ops Q fuel listed a w (i :: rs) := by
  subst hl ha
  refine AllReady.cons hi (fun K hK => ?_) hs
  rw [if_pos (wanted_plain hg)]
  exact wp_load_mid 74 x ho b 0 hx e.list _ hc.range Tryz.underlying74 rfl (infoE e) (hK _ _ h)
theorem ra_storeR {md : Region.Mode} {ops : Array Oper} {i : Nat} {o : Oper} {rs : List Nat} {fuel : Nat} {listed listed' : Array Bool} {a : Act} {w : World} {Q : Exit → Act → World → Prop} {x y : Operand} {b : Nat} {T : TypeId} (e : Ev) (hi : ops[i]? = some o) (hl : listed.setIfInBounds i true = listed') (hg : o.guard = none) (ho : o.op = .store 74 x y)
    (hx : a.eval x = .pointer (some ⟨b, 0, none⟩)) (hy : a.eval y = .agg e.arr) (hd : o.dst = none) (hC : Room w b T) (h : ∀ W, Ob W b T e → Upd b w W → wpAny Tryz.prog md ops Q fuel listed' a W) (hs : AllReady Tryz.prog md ops Q fuel listed a w rs) : AllReady Tryz.prog md ops Q fuel listed a w (i :: rs) := by
  subst hl
  refine AllReady.cons hi (fun K hK => ?_) hs
  rw [if_pos (wanted_plain hg)]
  obtain ⟨C, hC, hz⟩ := hC
  refine wp_store_mid 74 x y ho b 0 e.arr hx hy (thereOf hC (by rw [hz]; exact Nat.le_refl _)) (infoE' e) (Ev.one e) ?_
  rw [hd]
  exact hK _ _ (h _ (setsOb e hC hz) (setsUpd w b _))
theorem ret_cell2_tmp {P : Program} {fn : Func} {a : Act} {w : World} {p q u : Tmp} {ty ty' : TypeId} {b b' : Nat} {cs cs' : List Value} {d d' : TypeDesc} {v : Value} (h : fn.results = #[.cell p ty, .cell q ty', .tmp u]) (hp : a.tmps.getD p undef = .pointer (some ⟨b, 0, none⟩)) (hq : a.tmps.getD q undef = .pointer (some ⟨b', 0, none⟩)) (hu : a.tmps.getD u undef = v)
    (hc : w.rangeAt b 0 cs) (ht : P.underlying ty = some d) (hd : d.isRow = true) (hi : (P.info? ty).map (·.size) = some cs.length)
    (hc' : w.rangeAt b' 0 cs') (ht' : P.underlying ty' = some d') (hd' : d'.isRow = true) (hi' : (P.info? ty').map (·.size) = some cs'.length) : (results fn a.tmps).run P w = .ok (.tuple #[.agg cs.toArray, .agg cs'.toArray, v]) w := by
  have hr : (results fn a.tmps).run P w = ((asAddr (a.tmps.getD p undef)).run P w).andThen fun x w₁ => ((loadVar ty x).run P w₁).andThen fun v1 w₂ => ((asAddr (a.tmps.getD q undef)).run P w₂).andThen fun y w₃ => ((loadVar ty' y).run P w₃).andThen fun v2 w₄ => .ok (.tuple #[v1, v2, a.tmps.getD u undef]) w₄ := by
    simp only [results, h]
    simp [Sem.run_bind, Result.andThen]
    try (congr 1)
  rw [hr, hp, hq, hu]
  simp [asAddr, run_loadVar_mid w b 0 ty cs d hc ht hd hi, run_loadVar_mid w b' 0 ty' cs' d' hc' ht' hd' hi', Result.andThen]
end Go.Proofs.YtogoibigabpkhaaGreat

/- A region that draws its order, what it found kept all the while: one operation at a time. -/
namespace Go.Proofs.YtogoibigabpkhaaGreat
set_option linter.unusedVariables false
open Go.RowKit
open Go.Lib (hid)

section
variable {P : Program} {md : Region.Mode} {S : World → Prop} {ops : Array Oper} {i : Nat} {o : Oper} {rs : List Nat} {fuel : Nat} {listed listed' : Array Bool} {a a' : Act} {w : World} {Q : Exit → Act → World → Prop}
theorem rh_start {id n : Nat} (hm : P.follows .mixedOrders = true) (hn : ops.size = n) (hl : Array.replicate n false = listed) (h : wpAnyH P .any ops Q S n listed a w.drew) : (Code.region id ops true).wp P Q a w := by
  subst hn hl
  exact wp_region_held hm h
theorem rh_take {v : Value} (hi : ops[i]? = some o) (hs : Region.noSelect ops = true) (hf : Region.free md ops listed i = true) (hr : (Region.ready md ops listed).contains i = true)
    (hQ : ∀ c a w, Q (.panic c) (a.put o.dst v) w → Q (.panic c) a w) (hl : listed.setIfInBounds i true = listed') (hw : Region.wanted o (yielded ops a.tmps) = true) (hv : ∀ w, (execOp a.eval o).run P w = .ok (.value v) w) (ha : a.put o.dst v = a') (hS : S w) (h : wpAnyH P md ops Q S fuel listed' a' w) : wpAnyH P md ops Q S (fuel + 1) listed a w := by
  subst hl ha
  exact wpAnyH_take hi hs hf hr hQ (.inl ⟨hw, fun w _ => hv w⟩) hS h
theorem rh_load {cs : List Value} {d : TypeDesc} {T : TypeId} {x : Operand} {b q : Nat} (hi : ops[i]? = some o) (hs : Region.noSelect ops = true) (hf : Region.free md ops listed i = true) (hr : (Region.ready md ops listed).contains i = true)
    (hQ : ∀ c a w, Q (.panic c) (a.put o.dst (.agg cs.toArray)) w → Q (.panic c) a w) (hl : listed.setIfInBounds i true = listed') (hg : o.guard = none) (ho : o.op = .load T x) (hx : a.eval x = .pointer (some ⟨b, q, none⟩)) (hc : ∀ w, S w → w.rangeAt b q cs) (hu : P.underlying T = some d) (hd : d.isRow = true) (hz : (P.info? T).map (·.size) = some cs.length)
    (ha : a.put o.dst (.agg cs.toArray) = a') (hS : S w) (h : wpAnyH P md ops Q S fuel listed' a' w) : wpAnyH P md ops Q S (fuel + 1) listed a w := by
  subst hl ha
  exact wpAnyH_take hi hs hf hr hQ (yieldsIf_load_mid (wanted_plain hg) T x ho b q hx cs d hc hu hd hz) hS h
theorem rh_cons (hi : ops[i]? = some o) (hl : listed.setIfInBounds i true = listed') (hg : o.guard = none) (h : ∀ K' : Act → World → Prop, Shut (∀ a w, S w → wpAnyH P md ops Q S fuel listed' a w → K' a w) → Oper.wp P o a w K' Q) (hs : AllReadyH P md ops Q S fuel listed a w rs) : AllReadyH P md ops Q S fuel listed a w (i :: rs) := by
  subst hl
  refine AllReadyH.cons hi (fun K' hK => ?_) hs
  rw [if_pos (wanted_plain hg)]
  exact h K' (fun a w h1 h2 => hK.out a w h1 (fun _ => h2))
theorem rh_assign {x : Operand} {v : Value} (hi : ops[i]? = some o) (hl : listed.setIfInBounds i true = listed') (hg : o.guard = none) (ho : o.op = .assign x)
    (hv : a.eval x = v) (ha : a.put o.dst v = a') (hS : S w) (h : wpAnyH P md ops Q S fuel listed' a' w) (hs : AllReadyH P md ops Q S fuel listed a w rs) : AllReadyH P md ops Q S fuel listed a w (i :: rs) := by
  subst ha hv
  refine rh_cons hi hl hg (fun K hK => ?_) hs
  unfold Oper.wp
  rw [BigFrame.run_assign x ho]
  exact hK.out _ _ hS h
end
section
variable {md : Region.Mode} {S : World → Prop} {ops : Array Oper} {i : Nat} {o : Oper} {rs : List Nat} {fuel : Nat} {listed listed' : Array Bool} {a a' : Act} {w : World} {Q : Exit → Act → World → Prop}
theorem rh_storeC {x y : Operand} {b : Nat} {T : TypeId} (e : Ev) (hi : ops[i]? = some o) (hl : listed.setIfInBounds i true = listed') (hg : o.guard = none) (ho : o.op = .store 44 x y)
    (hx : a.eval x = .pointer (some ⟨b, 0, none⟩)) (hy : a.eval y = .agg e.arr) (hd : o.dst = none) (hC : Room w b T) (h : ∀ W, Ob W b T e → Upd b w W → S W ∧ wpAnyH Tryz.prog md ops Q S fuel listed' a W) (hs : AllReadyH Tryz.prog md ops Q S fuel listed a w rs) : AllReadyH Tryz.prog md ops Q S fuel listed a w (i :: rs) := by
  refine rh_cons hi hl hg (fun K hK => ?_) hs
  obtain ⟨C, hC, hz⟩ := hC
  refine wp_store_mid 44 x y ho b 0 e.arr hx hy (thereOf hC (by rw [hz]; exact Nat.le_refl _)) (infoEc' e) (Ev.one e) ?_
  rw [hd]
  obtain ⟨h1, h2⟩ := h _ (setsOb e hC hz) (setsUpd w b _)
  exact hK.out _ _ h1 h2
theorem rh_storeR {x y : Operand} {b : Nat} {T : TypeId} (e : Ev) (hi : ops[i]? = some o) (hl : listed.setIfInBounds i true = listed') (hg : o.guard = none) (ho : o.op = .store 74 x y)
    (hx : a.eval x = .pointer (some ⟨b, 0, none⟩)) (hy : a.eval y = .agg e.arr) (hd : o.dst = none) (hC : Room w b T) (h : ∀ W, Ob W b T e → Upd b w W → S W ∧ wpAnyH Tryz.prog md ops Q S fuel listed' a W) (hs : AllReadyH Tryz.prog md ops Q S fuel listed a w rs) : AllReadyH Tryz.prog md ops Q S fuel listed a w (i :: rs) := by
  refine rh_cons hi hl hg (fun K hK => ?_) hs
  obtain ⟨C, hC, hz⟩ := hC
  refine wp_store_mid 74 x y ho b 0 e.arr hx hy (thereOf hC (by rw [hz]; exact Nat.le_refl _)) (infoE' e) (Ev.one e) ?_
  rw [hd]
  obtain ⟨h1, h2⟩ := h _ (setsOb e hC hz) (setsUpd w b _)
  exact hK.out _ _ h1 h2
theorem rangeA {W : World} {b o : Nat} {u0 u1 u2 u3 : Value} (h0 : W.cell? ⟨b, o, none⟩ = some u0) (h1 : W.cell? ⟨b, o + 1, none⟩ = some u1) (h2 : W.cell? ⟨b, o + 2, none⟩ = some u2) (h3 : W.cell? ⟨b, o + 3, none⟩ = some u3) : W.rangeAt b o [u0, u1, u2, u3] := fun j v hv => by
  match j, hv with
  | 0, hv => cases hv; exact h0
  | 1, hv => cases hv; exact h1
  | 2, hv => cases hv; exact h2
  | 3, hv => cases hv; exact h3
  | _ + 4, hv => cases hv
end
end Go.Proofs.YtogoibigabpkhaaGreat
