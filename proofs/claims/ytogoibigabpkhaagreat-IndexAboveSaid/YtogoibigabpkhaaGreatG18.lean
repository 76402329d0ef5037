import Derived.Test.YtogoibigabpkhaaGreatG11
import Derived.Test.YtogoibigabpkhaaGreatJKeptM
import Derived.Test.YtogoibigabpkhaaGreatJIterM
import Derived.Test.YtogoibigabpkhaaGreatG14
import Derived.Test.YtogoibigabpkhaaGreatG17
import Derived.Test.YtogoibigabpkhaaGreatG08
/- An index, the program's and the document's, in memory. -/
namespace Go.Proofs.YtogoibigabpkhaaGreat
set_option linter.unusedVariables false
open Go.RowKit
open Go.Lib (hid)

theorem own_tch {S : Nat → Prop} {w w' : World} {B n size : Nat} {e : TypeId} {v : Value} {xs : List Value} (h : w.ownsRow B e size v n xs) (ht : Tch S w w') (hv : ∀ k, v.ownBlock = some k → ¬ S k) : w'.ownsRow B e size v n xs := by
  refine ⟨h.1, ?_⟩
  rcases h.2 with h2 | ⟨g, cap, cur, rfl, h1, hg, r⟩
  · exact .inl h2
  · exact .inr ⟨g, cap, cur, rfl, h1, ht.ob hg (hv g rfl), r⟩
/-- A row of one's own lies in no block of another kind. -/
theorem own_off {w : World} {B n size k : Nat} {e : TypeId} {v : Value} {xs : List Value} {o : Obj} (h : w.ownsRow B e size v n xs) (ho : w.heap[k]? = some o) (hne : ∀ cur, o ≠ .cells cur e (0, 0)) : v.ownBlock ≠ some k := by
  rcases h.2 with ⟨rfl, _⟩ | ⟨g, cap, cur, rfl, h1, hg, r⟩
  · simp [Value.ownBlock]
  · intro e
    simp [Value.ownBlock] at e
    subst e
    rw [ho] at hg
    exact hne cur (Option.some.inj hg)

/-- Block b holds a set of names. -/
def Cg (w : World) (b n : Nat) (ids : List Int) : Prop := ∃ D : DataW Value, w.ownsMap Tryz.prog 3 unitElem b n D ∧ ∀ i, Maps.has D (key i) = decide (i ∈ ids)
theorem Cg.lt {w : World} {b n : Nat} {ids : List Int} (h : Cg w b n ids) : b < w.heap.size := by obtain ⟨D, h, _⟩ := h; exact h.lt
theorem Cg.ob {w : World} {b n : Nat} {ids : List Int} (h : Cg w b n ids) : ∃ es c, w.heap[b]? = some (.map es c) := by obtain ⟨D, ⟨es, clock, hb, _⟩, _⟩ := h; exact ⟨es, clock, hb⟩
theorem Mp.ob {w : World} {b n : Nat} {xs : List En} (h : Mp w b n xs) : ∃ es c, w.heap[b]? = some (.map es c) := by obtain ⟨D, ⟨es, clock, hb, _⟩, _⟩ := h; exact ⟨es, clock, hb⟩
theorem Cg.keptT {S : Nat → Prop} {w w' : World} {b n : Nat} {ids : List Int} (h : Cg w b n ids) (ht : Tch S w w') (hS : ¬ S b) : Cg w' b n ids := by
  obtain ⟨D, ⟨es, clock, hb, hrest⟩, hs⟩ := h
  exact ⟨D, ⟨es, clock, ht.ob hb hS, hrest⟩, hs⟩
theorem Cg.on {w w' : World} {b n : Nat} {ids : List Int} (h : Cg w b n ids) (hb : Below w.heap.size w w') : Cg w' b n ids := h.keptT (Tch.ofBelow (S := fun _ => False) hb) (fun h => h)
theorem Cg.nocell {w : World} {b n : Nat} {ids : List Int} (h : Cg w b n ids) (i : Nat) : w.cell? ⟨b, i, none⟩ = none := by
  obtain ⟨es, c, hb⟩ := h.ob
  simp [World.cell?, hb]
theorem Cg.mono {w : World} {b n n' : Nat} {ids : List Int} (h : Cg w b n ids) (hn : n ≤ n') : Cg w b n' ids := by obtain ⟨D, h, hs⟩ := h; exact ⟨D, h.mono hn, hs⟩
theorem Mp.mono {w : World} {b n n' : Nat} {xs : List En} (h : Mp w b n xs) (hn : n ≤ n') : Mp w b n' xs := by obtain ⟨D, h, hs⟩ := h; exact ⟨D, h.mono hn, hs⟩
theorem Cg.congr {w : World} {b n : Nat} {ids ids' : List Int} (h : Cg w b n ids) (he : ∀ i, i ∈ ids ↔ i ∈ ids') : Cg w b n ids' := by obtain ⟨D, h, hs⟩ := h; exact ⟨D, h, fun i => by rw [hs i]; simp [he i]⟩
theorem Mp.congr {w : World} {b n : Nat} {xs ys : List En} (h : Mp w b n xs) (he : ∀ i, lookG En.id xs i = lookG En.id ys i) : Mp w b n ys := by obtain ⟨D, h, hs⟩ := h; exact ⟨D, h, fun i => by rw [← he i]; exact hs i⟩
theorem Cg.made (w : World) : Cg (w.alloc (.map #[] 0)) w.heap.size 0 [] := ⟨_, World.ownsMap_made w _ _ _, fun i => by simp [Maps.has]⟩
theorem has_put {D : DataW Value} {ids : List Int} (hD : Maps.IsMap D) (hs : ∀ i, Maps.has D (key i) = decide (i ∈ ids)) (x : Int) (d : DataW Value) : ∀ i, Maps.has (D.put (key x) d) (key i) = decide (i ∈ ids ++ [x]) := fun i => by
  by_cases h : x = i
  · subst h
    have hk : WideAt.IsKeyLit (key x) := trivial
    rw [Maps.has_put_same hD hk]; simp
  · rw [Maps.has_put_other (key_ne (Ne.symm h)), hs i]
    simp [Ne.symm h]

/-- The program's index, at block x: its maps at b and b2. -/
structure Ix (w : World) (x b b2 n : Nat) (nd c : Int) (xs : List En) (ids : List Int) : Prop where
  ob : w.heap[x]? = some (.cells #[.int .i64 nd, .int .i64 c, .map (some b), .map (some b2)] 72 (0, 0))
  mp : Mp w b n xs
  cg : Cg w b2 n ids
  ne : b ≠ b2
abbrev TI (x b b2 : Nat) : Nat → Prop := fun k => k = x ∨ k = b ∨ k = b2
section
variable {w w' : World} {x b b2 n : Nat} {nd c : Int} {xs : List En} {ids : List Int}
theorem Ix.xb (h : Ix w x b b2 n nd c xs ids) : x ≠ b ∧ x ≠ b2 := by
  refine ⟨fun e => ?_, fun e => ?_⟩
  · obtain ⟨es, k, hb⟩ := h.mp.ob
    have := h.ob
    rw [e, hb] at this; cases this
  · obtain ⟨es, k, hb⟩ := h.cg.ob
    have := h.ob
    rw [e, hb] at this; cases this
theorem Ix.lt (h : Ix w x b b2 n nd c xs ids) : x < w.heap.size ∧ b < w.heap.size ∧ b2 < w.heap.size := ⟨(Array.getElem?_eq_some_iff.1 h.ob).1, h.mp.lt, h.cg.lt⟩
theorem Ix.nocell (h : Ix w x b b2 n nd c xs ids) : ∀ k, TI x b b2 k → ∀ i, 6 ≤ i → w.cell? ⟨k, i, none⟩ = none := fun k hk i hi => by
  rcases hk with rfl | rfl | rfl
  · rw [cellAt' h.ob, Array.getElem?_eq_none (by simp; omega)]
  · exact h.mp.nocell i
  · exact h.cg.nocell i
theorem Ix.keptT {S : Nat → Prop} (h : Ix w x b b2 n nd c xs ids) (ht : Tch S w w') (hS : ∀ k, TI x b b2 k → ¬ S k) : Ix w' x b b2 n nd c xs ids :=
  ⟨ht.ob h.ob (hS x (.inl rfl)), h.mp.keptT ht (hS b (.inr (.inl rfl))), h.cg.keptT ht (hS b2 (.inr (.inr rfl))), h.ne⟩
theorem Ix.on (h : Ix w x b b2 n nd c xs ids) (hb : Below w.heap.size w w') : Ix w' x b b2 n nd c xs ids := h.keptT (Tch.ofBelow (S := fun _ => False) hb) fun _ _ h => h
theorem Ix.mono {n' : Nat} (h : Ix w x b b2 n nd c xs ids) (hn : n ≤ n') : Ix w x b b2 n' nd c xs ids := ⟨h.ob, h.mp.mono hn, h.cg.mono hn, h.ne⟩
theorem Ix.congr {ys : List En} {ids' : List Int} (h : Ix w x b b2 n nd c xs ids) (he : ∀ i, lookG En.id xs i = lookG En.id ys i) (hi : ∀ i, i ∈ ids ↔ i ∈ ids') : Ix w x b b2 n nd c ys ids' := ⟨h.ob, h.mp.congr he, h.cg.congr hi, h.ne⟩
theorem Ix.cells (h : Ix w x b b2 n nd c xs ids) : w.cell? ⟨x, 0, none⟩ = some (.int .i64 nd) ∧ w.cell? ⟨x, 1, none⟩ = some (.int .i64 c) ∧ w.cell? ⟨x, 2, none⟩ = some (Value.map (some b)) ∧ w.cell? ⟨x, 3, none⟩ = some (Value.map (some b2)) ∧ w.frozen? ⟨x, 1, none⟩ = false :=
  ⟨(cellAt' h.ob 0).trans rfl, (cellAt' h.ob 1).trans rfl, (cellAt' h.ob 2).trans rfl, (cellAt' h.ob 3).trans rfl, frozenAt h.ob 1⟩
/-- Its clock turned. -/
theorem Ix.clock (h : Ix w x b b2 n nd c xs ids) (d : Int) : Ix (w.setCell ⟨x, 1, none⟩ (.int .i64 d)) x b b2 n nd d xs ids ∧ Tch (fun k => k = x) w (w.setCell ⟨x, 1, none⟩ (.int .i64 d)) := by
  have hg := grownSet w ⟨x, 1, none⟩ (.int .i64 d)
  have hT : Tch (fun k => k = x) w (w.setCell ⟨x, 1, none⟩ (.int .i64 d)) := Tch.ofGrown hg fun k e => (Option.some.inj e).symm
  refine ⟨⟨?_, h.mp.keptT hT (fun e => h.xb.1 e.symm), h.cg.keptT hT (fun e => h.xb.2 e.symm), h.ne⟩, hT⟩
  have := setAt (j := 1) (x := .int .i64 d) h.ob
  simpa using this
end

/-- The document's index, at block y. -/
structure Rx (w : World) (y : Nat) (nd c : Int) (v u : Value) (es : List Ev) (ids : List Int) : Prop where
  ob : w.heap[y]? = some (.cells #[.int .i64 nd, .int .i64 c, v, u] 52 (0, 0))
  es : OwnR w 0 v es
  ids : OwnI w 0 u ids
section
variable {w w' : World} {y : Nat} {nd c : Int} {v u : Value} {es : List Ev} {ids : List Int}
theorem Rx.lt (h : Rx w y nd c v u es ids) : y < w.heap.size := (Array.getElem?_eq_some_iff.1 h.ob).1
theorem Rx.nocell (h : Rx w y nd c v u es ids) : ∀ k, k = y → ∀ i, 6 ≤ i → w.cell? ⟨k, i, none⟩ = none := fun k hk i hi => by
  subst hk
  rw [cellAt' h.ob, Array.getElem?_eq_none (by simp; omega)]
theorem Rx.keptT {S : Nat → Prop} (h : Rx w y nd c v u es ids) (ht : Tch S w w') (hy : ¬ S y) (hS : ∀ k, S k → ∃ o, w.heap[k]? = some o ∧ (∀ cur, o ≠ .cells cur 74 (0, 0)) ∧ ∀ cur, o ≠ .cells cur 3 (0, 0)) : Rx w' y nd c v u es ids :=
  ⟨ht.ob h.ob hy, own_tch h.es ht fun k hk hs => by obtain ⟨o, ho, h1, h2⟩ := hS k hs; exact own_off h.es ho h1 hk, own_tch h.ids ht fun k hk hs => by obtain ⟨o, ho, h1, h2⟩ := hS k hs; exact own_off h.ids ho h2 hk⟩
theorem Rx.on (h : Rx w y nd c v u es ids) (hb : Below w.heap.size w w') : Rx w' y nd c v u es ids := h.keptT (Tch.ofBelow (S := fun _ => False) hb) (fun h => h) fun _ h => h.elim
theorem Rx.cells (h : Rx w y nd c v u es ids) : w.cell? ⟨y, 0, none⟩ = some (.int .i64 nd) ∧ w.cell? ⟨y, 1, none⟩ = some (.int .i64 c) ∧ w.cell? ⟨y, 2, none⟩ = some v ∧ w.cell? ⟨y, 3, none⟩ = some u ∧ w.frozen? ⟨y, 1, none⟩ = false ∧ w.frozen? ⟨y, 2, none⟩ = false ∧ w.frozen? ⟨y, 3, none⟩ = false :=
  ⟨(cellAt' h.ob 0).trans rfl, (cellAt' h.ob 1).trans rfl, (cellAt' h.ob 2).trans rfl, (cellAt' h.ob 3).trans rfl, frozenAt h.ob 1, frozenAt h.ob 2, frozenAt h.ob 3⟩
/-- What turns in its block turns nothing in its rows. -/
theorem Rx.set1 (h : Rx w y nd c v u es ids) (d : Int) : Rx (w.setCell ⟨y, 1, none⟩ (.int .i64 d)) y nd d v u es ids ∧ Tch (fun k => k = y) w (w.setCell ⟨y, 1, none⟩ (.int .i64 d)) := by
  have hT : Tch (fun k => k = y) w (w.setCell ⟨y, 1, none⟩ (.int .i64 d)) := Tch.ofGrown (grownSet w ⟨y, 1, none⟩ (.int .i64 d)) fun k e => (Option.some.inj e).symm
  refine ⟨⟨by have := setAt (j := 1) (x := .int .i64 d) h.ob; simpa using this, own_tch h.es hT fun k hk hs => by subst hs; exact own_off h.es h.ob (fun cur e => absurd (Obj.cells.inj e).2.1 (by decide)) hk, own_tch h.ids hT fun k hk hs => by subst hs; exact own_off h.ids h.ob (fun cur e => absurd (Obj.cells.inj e).2.1 (by decide)) hk⟩, hT⟩
theorem Rx.set2 (h : Rx w y nd c v u es ids) {v' : Value} {fs : List Ev} (hv : OwnR w 0 v' fs) : Rx (w.setCell ⟨y, 2, none⟩ v') y nd c v' u fs ids ∧ Tch (fun k => k = y) w (w.setCell ⟨y, 2, none⟩ v') := by
  have hT : Tch (fun k => k = y) w (w.setCell ⟨y, 2, none⟩ v') := Tch.ofGrown (grownSet w ⟨y, 2, none⟩ v') fun k e => (Option.some.inj e).symm
  refine ⟨⟨by have := setAt (j := 2) (x := v') h.ob; simpa using this, own_tch hv hT fun k hk hs => by subst hs; exact own_off hv h.ob (fun cur e => absurd (Obj.cells.inj e).2.1 (by decide)) hk, own_tch h.ids hT fun k hk hs => by subst hs; exact own_off h.ids h.ob (fun cur e => absurd (Obj.cells.inj e).2.1 (by decide)) hk⟩, hT⟩
theorem Rx.set3 (h : Rx w y nd c v u es ids) {u' : Value} {js : List Int} (hu : OwnI w 0 u' js) : Rx (w.setCell ⟨y, 3, none⟩ u') y nd c v u' es js ∧ Tch (fun k => k = y) w (w.setCell ⟨y, 3, none⟩ u') := by
  have hT : Tch (fun k => k = y) w (w.setCell ⟨y, 3, none⟩ u') := Tch.ofGrown (grownSet w ⟨y, 3, none⟩ u') fun k e => (Option.some.inj e).symm
  refine ⟨⟨by have := setAt (j := 3) (x := u') h.ob; simpa using this, own_tch h.es hT fun k hk hs => by subst hs; exact own_off h.es h.ob (fun cur e => absurd (Obj.cells.inj e).2.1 (by decide)) hk, own_tch hu hT fun k hk hs => by subst hs; exact own_off hu h.ob (fun cur e => absurd (Obj.cells.inj e).2.1 (by decide)) hk⟩, hT⟩
end
end Go.Proofs.YtogoibigabpkhaaGreat
/- Entries by value: the law's Fits. -/
namespace Go.Proofs.YtogoibigabpkhaaGreat
set_option linter.unusedVariables false
open Go.RowKit
open Go.Lib (hid)

def fitsE (e : Ev) : Bool := decide (e.fp.n ≤ 80) && decide (e.xp.n ≤ 80) && decide (e.vp.n ≤ 80)
set_option maxHeartbeats 1200000 in
set_option maxRecDepth 100000 in
theorem cFits (e : Ev) (w : World) : Calls Tryz.prog 26 #[.agg e.arr] w fun x w' => x = .returned (.bool (fitsE e)) ∧ Below w.heap.size w w' := by
  have c11 := newE_cell w e 44 (j := 11) rfl
  have c14 := newE_cell w e 44 (j := 14) rfl
  have c18 := newE_cell w e 44 (j := 18) rfl
  have hb : Below w.heap.size w (w.alloc (.cells e.arr 44)) := (Below.refl _ w).alloc (Nat.le_refl _) _
  by_cases h1 : e.fp.n ≤ 80
  · by_cases h2 : e.xp.n ≤ 80
    · by_cases h3 : e.vp.n ≤ 80
      all_goals (
        go_enter Tryz.func26, Tryz.ntmps26
        go_wp2
        go_ret
        exact ⟨ret_bool (by unfold fitsE; simp [h1, h2, h3]; try omega), hb⟩)
    · go_enter Tryz.func26, Tryz.ntmps26
      go_wp2
      go_ret
      exact ⟨ret_bool (by unfold fitsE; simp [h1, h2]; try omega), hb⟩
  · go_enter Tryz.func26, Tryz.ntmps26
    go_wp2
    go_ret
    exact ⟨ret_bool (by unfold fitsE; simp [h1]; try omega), hb⟩
end Go.Proofs.YtogoibigabpkhaaGreat
/- An act of the law's, by value and in its block; entries such as are gone through. -/
namespace Go.Proofs.YtogoibigabpkhaaGreat
set_option linter.unusedVariables false
open Go.RowKit
open Go.Lib (hid)

structure Ac where
  k : Nat
  t : Int
  l : Sv
  cs : List C7
  y : En
def Ac.list (a : Ac) : List Value := .int .u8 a.k :: .int .i64 a.t :: a.l.v :: a.y.e.list
def Ac.arr (a : Ac) : Array Value := a.list.toArray
theorem Ac.len (a : Ac) : a.list.length = 22 := rfl
theorem Ac.size (a : Ac) : a.arr.size = 22 := rfl
theorem Ac.toList (a : Ac) : a.arr.toList = a.list := by unfold Ac.arr; simp
theorem Ac.one' (a : Ac) : ∀ u ∈ a.list, u.oneCell' = true := fun u hu => by
  unfold Ac.list at hu
  rcases List.mem_cons.1 hu with rfl | hu
  · rfl
  rcases List.mem_cons.1 hu with rfl | hu
  · rfl
  rcases List.mem_cons.1 hu with rfl | hu
  · rfl
  exact oneE a.y.e u hu
theorem Ac.one (a : Ac) : a.arr.all (·.oneCell') = true := all_oneCell_toArray a.one'
theorem infoA (a : Ac) : (Tryz.prog.info? 46).map (·.size) = some a.list.length := by rw [Ac.len]; kernel_rfl
theorem infoA' (a : Ac) : (Tryz.prog.info? 46).map (·.size) = some a.arr.size := by rw [Ac.size]; kernel_rfl
/-- What it holds lies in memory. -/
def Ac.at (w : World) (a : Ac) : Prop := Sl w a.l.v a.cs ∧ a.y.at w ∧ a.k < 256 ∧ (Lit.int .i64 a.y.id).wf = true
theorem Ac.at.on {w w' : World} {a : Ac} (h : a.at w) (hb : Below w.heap.size w w') : a.at w' := ⟨h.1.on hb, h.2.1.on hb, h.2.2⟩
/-- Block q holds an act. -/
abbrev OA (w : World) (q : Nat) (a : Ac) : Prop := w.heap[q]? = some (.cells a.arr 46 (0, 0))
theorem OA.range {w : World} {q : Nat} {a : Ac} (h : OA w q a) : w.rangeAt q 0 a.list := fun j v hv => by
  rw [Nat.zero_add, cellAt' h, ← Array.getElem?_toList, Ac.toList]; exact hv
theorem OA.cell {w : World} {q : Nat} {a : Ac} (h : OA w q a) {j : Nat} {v : Value} (hv : a.list[j]? = some v) : w.cell? ⟨q, j, none⟩ = some v := by
  have := h.range j v hv; rwa [Nat.zero_add] at this
theorem OA.ent {w : World} {q : Nat} {a : Ac} (h : OA w q a) : w.rangeAt q 3 a.y.e.list := fun j v hv => h.cell (j := 3 + j) (by rw [Nat.add_comm 3 j]; exact hv)
theorem loadA {ops : Array Oper} {rest : List Oper} {op : Oper} {c : Act} {w : World} {Q : Exit → Act → World → Prop} {x : Operand} {b : Nat} (a : Ac) (hgd : op.guard = none) (ho : op.op = .load 46 x)
    (hx : c.eval x = .pointer (some ⟨b, 0, none⟩)) (hc : OA w b a) (h : wpList Tryz.prog ops Q rest (c.put op.dst (.agg a.arr)) w) : wpList Tryz.prog ops Q (op :: rest) c w :=
  wpList_load_mid hgd 46 x ho b 0 hx a.list _ hc.range Tryz.underlying46 rfl (infoA a) h
theorem loadAl {ops : Array Oper} {rest : List Oper} {op : Oper} {c : Act} {w : World} {Q : Exit → Act → World → Prop} {x : Operand} {b o : Nat} (a : Ac) (hgd : op.guard = none) (ho : op.op = .load 46 x)
    (hx : c.eval x = .pointer (some ⟨b, o, none⟩)) (hc : w.rangeAt b o a.list) (h : wpList Tryz.prog ops Q rest (c.put op.dst (.agg a.arr)) w) : wpList Tryz.prog ops Q (op :: rest) c w :=
  wpList_load_mid hgd 46 x ho b o hx a.list _ hc Tryz.underlying46 rfl (infoA a) h
def RoomA (w : World) (q : Nat) : Prop := ∃ C : Array Value, w.heap[q]? = some (.cells C 46 (0, 0)) ∧ C.size = 22
theorem thereOfA {w : World} {q : Nat} {C : Array Value} {T : TypeId} (h : w.heap[q]? = some (.cells C T (0, 0))) {n : Nat} (hn : n ≤ C.size) : w.there q 0 n := thereOf h hn
theorem setsOA {w : World} {q : Nat} {C : Array Value} (a : Ac) (h : w.heap[q]? = some (.cells C 46 (0, 0))) (hs : C.size = 22) : OA (w.setCells q 0 a.arr.toList) q a := by
  obtain ⟨C', h1, h2, _, h4⟩ := setsAll a.arr.toList 0 C w h
  have : C' = a.arr := by
    apply Array.ext_getElem?
    intro j
    by_cases hj : j < 22
    · have := h4 j (by rw [Ac.toList, Ac.len]; exact hj) (by omega)
      rw [Nat.zero_add] at this
      rw [this]; simp
    · rw [Array.getElem?_eq_none (by omega), Array.getElem?_eq_none (by rw [Ac.size]; omega)]
  subst this
  exact h1
theorem storeA {ops : Array Oper} {rest : List Oper} {op : Oper} {c : Act} {w : World} {Q : Exit → Act → World → Prop} {x y : Operand} {b : Nat} (a : Ac) (hgd : op.guard = none) (ho : op.op = .store 46 x y)
    (hx : c.eval x = .pointer (some ⟨b, 0, none⟩)) (hy : c.eval y = .agg a.arr) (hC : RoomA w b) (h : ∀ W, OA W b a → Upd b w W → wpList Tryz.prog ops Q rest (c.put op.dst undef) W) : wpList Tryz.prog ops Q (op :: rest) c w := by
  obtain ⟨C, hC, hs⟩ := hC
  exact wpList_store_mid hgd 46 x y ho b 0 a.arr hx hy (thereOf hC (by rw [hs]; exact Nat.le_refl _)) (infoA' a) (Ac.one a) (h _ (setsOA a hC hs) (setsUpd w b _))
abbrev zeroAc : Obj := .cells #[.int .u8 0, .int .i64 0, .slice none 0 0, .int .i64 0, .int .i64 0, .int .i64 0, .int .i64 0, .int .i64 0, .int .i64 0, .int .i64 0, .int .i64 0, .int .i64 0, .int .i64 0, .int .i64 0, .slice none 0 0, .int .i64 0, .int .i64 0, .slice none 0 0, .bool false, .bool false, .int .i64 0, .slice none 0 0] 46
theorem zeroRoomA (w : World) : RoomA (w.alloc zeroAc) w.heap.size := ⟨_, heap_alloc_new w _, rfl⟩
abbrev SlAc (w : World) (v : Value) (acs : List Ac) : Prop := SlG Ac.list 22 w v acs

theorem fits_short {w : World} {y : En} (h : y.at w) (hf : fitsE y.e = true) : y.short 80 := by
  unfold fitsE at hf
  simp only [Bool.and_eq_true, decide_eq_true_eq] at hf
  have e1 : y.e.fp.n = y.f.length := by obtain ⟨_, _, cap, a, hv, _⟩ := h.1; injection hv
  have e2 : y.e.xp.n = y.a.length := by obtain ⟨_, _, cap, a, hv, _⟩ := h.2.1; injection hv
  have e3 : y.e.vp.n = y.v.length := by obtain ⟨_, _, cap, a, hv, _⟩ := h.2.2; injection hv
  exact ⟨by omega, by omega, by omega⟩
set_option maxHeartbeats 4000000 in
set_option maxRecDepth 100000 in
theorem cFitsL {v : Value} {l : List En} {w : World} (h : SlE w v (evs l)) (hA : AllAt w l) (hl : l.length ≤ 9223372036854775807) : Calls Tryz.prog 5 #[v] w fun e w' => (e = .returned (.bool false) ∨ (e = .returned (.bool true) ∧ l.length ≤ 40 ∧ ∀ y ∈ l, y.short 80)) ∧ Below w.heap.size w w' := by
  obtain ⟨b, o, cap, a, rfl, ha, hc, hb⟩ := h
  rw [List.length_map] at ha hb ⊢
  have HA := hid hA
  have HCC := hid hc
  obtain ⟨m, hm⟩ : ∃ m, m = l.length := ⟨_, rfl⟩
  rw [← hm] at ha hb hl ⊢
  have HN := hid hm
  clear hm hA hc
  go_enter Tryz.func5, Tryz.ntmps5
  go_wp2_with fail
  go_loopw [3] (fun i wr => ∃ (k : Nat), k ≤ m ∧ k ≤ 41 ∧ i = .int .i64 k ∧ Hid (∀ y ∈ l.take k, fitsE y.e = true) ∧ Below w.heap.size w wr) (fun i _ => m - (RowKit.intOf i).toNat)
  case atStart => exact ⟨0, Nat.zero_le _, by omega, rfl, hid (by simp), Below.refl _ _⟩
  case round =>
    obtain ⟨k, hk, hk41, rfl, HALL, hB⟩ := hrel
    have HB := hid hB
    clear hB
    by_cases hlt : k < m
    · by_cases h40 : k ≤ 40
      · obtain rfl := ha (by omega)
        obtain ⟨y, hy⟩ : ∃ y, l[k]? = some y := ⟨l[k]'(by rw [← HN.out]; exact hlt), List.getElem?_eq_getElem (by rw [← HN.out]; exact hlt)⟩
        have hbw := hb (by omega)
        have HC : Hid (wr.rangeAt b (o + k * 19) y.e.list) := hid ((HCC.out.on HB.out fun _ => hbw) k y.e (at_evs hy))
        have HE := hid hy
        have hF := cFits y.e wr
        obtain ⟨rt, hrt⟩ : ∃ rt, rt = fitsE y.e := ⟨_, rfl⟩
        rw [← hrt] at hF
        have HRT := hid hrt
        clear hy hrt
        rcases rt with _ | _
        · go_wp2_with (first
            | ((with_reducible refine loadEl (T := 44) (x := ?lx1) (b := ?lb1) (o := ?lo1) uE iE y.e ?lg1 ?lp1 ?lxx1 ?lc1 ?_); (case lg1 => rfl); (case lp1 => rfl); (case lxx1 => rfl); (case lc1 => exact HC.out))
            | (go_at_call 26; refine hF.mono ?_; rintro q w1 ⟨rfl, hB1⟩; have HB1 := hid (HB.out.trans (hB1.mono HB.out.size)); clear hB1)
            | fail)
          go_ret
          exact ⟨.inl rfl, HB1.out⟩
        · go_wp2_with (first
            | ((with_reducible refine loadEl (T := 44) (x := ?lx1) (b := ?lb1) (o := ?lo1) uE iE y.e ?lg1 ?lp1 ?lxx1 ?lc1 ?_); (case lg1 => rfl); (case lp1 => rfl); (case lxx1 => rfl); (case lc1 => exact HC.out))
            | (go_at_call 26; refine hF.mono ?_; rintro q w1 ⟨rfl, hB1⟩; have HB1 := hid (HB.out.trans (hB1.mono HB.out.size)); clear hB1)
            | fail)
          go_roundw
          case rel => exact ⟨k + 1, by omega, by omega, by go_num, hid (fun z hz => by rw [List.take_add_one, HE.out] at hz; rcases List.mem_append.1 hz with hz | hz; exact HALL.out z hz; simp at hz; subst hz; exact HRT.out.symm), HB1.out⟩
          case measure => simp [RowKit.intOf]; omega
      · have hm40 : ¬ m ≤ 40 := by omega
        go_wp2_with fail
        go_ret
        exact ⟨.inl (ret_bool (decide_eq_false (by omega))), HB.out⟩
    · have hkk : k = m := by omega
      subst hkk
      by_cases hm40 : k ≤ 40
      · have HF : Hid (∀ y ∈ l, y.short 80) := hid (fun y hy => fits_short (HA.out y hy) (by have := HALL.out; rw [HN.out, List.take_length] at this; exact this y hy))
        have HM := hid hm40
        go_wp2_with fail
        go_ret
        exact ⟨.inr ⟨ret_bool (decide_eq_true (by have := HM.out; omega)), HM.out, HF.out⟩, HB.out⟩
      · go_wp2_with fail
        go_ret
        exact ⟨.inl (ret_bool (decide_eq_false (by omega))), HB.out⟩
end Go.Proofs.YtogoibigabpkhaaGreat
