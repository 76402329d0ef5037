import Derived.Test.YtlehcaacfgocaaaGreatG09
namespace Go.Proofs.YtlehcaacfgocaaaGreat
set_option linter.unusedVariables false
open Go.RowKit
open Go.Lib (hid)
structure Mg where
  so : Int
  fr : Int
  tt : Int
  bal : Int
  c : C7
  vt : Int
  vp : Sv
  fl : Bool
  s : Int
  ab : Int
  xt : Int
  xp : Sv
  ft : Int
  fp : Sv
def Mg.list (m : Mg) : List Value := [.int .i64 m.so, .int .i64 m.fr, .int .i64 m.tt, .int .i64 m.bal, .int .i64 m.c.i, .int .i64 m.c.k, .int .i64 m.c.s, .int .i64 m.c.t, .int .i64 m.c.d, .int .i64 m.c.p, .int .i64 m.c.q, .int .i64 m.vt, m.vp.v, .bool m.fl, .int .i64 m.s, .int .i64 m.ab, .int .i64 m.xt, m.xp.v, .int .i64 m.ft, m.fp.v]
def Mg.arr (m : Mg) : Array Value := m.list.toArray
theorem Mg.len (m : Mg) : m.list.length = 20 := rfl
theorem Mg.size (m : Mg) : m.arr.size = 20 := rfl
theorem Mg.toList (m : Mg) : m.arr.toList = m.list := by unfold Mg.arr; simp
theorem Mg.one' (m : Mg) : ∀ u ∈ m.list, u.oneCell' = true := fun v hv => by
  unfold Mg.list at hv; simp at hv
  rcases hv with h | h | h | h | h | h | h | h | h | h | h | h | h | h | h | h | h | h | h | h <;> subst h <;> rfl
theorem Mg.one (m : Mg) : m.arr.all (·.oneCell') = true := all_oneCell_toArray m.one'
theorem infoM (m : Mg) : (Tryz.prog.info? 50).map (·.size) = some m.list.length := by rw [Mg.len]; kernel_rfl
theorem infoM' (m : Mg) : (Tryz.prog.info? 50).map (·.size) = some m.arr.size := by rw [Mg.size]; kernel_rfl
abbrev OM (w : World) (q : Nat) (m : Mg) : Prop := w.heap[q]? = some (.cells m.arr 50 (0, 0))
theorem OM.range {w : World} {q : Nat} {m : Mg} (h : OM w q m) : w.rangeAt q 0 m.list := fun j v hv => by
  rw [Nat.zero_add, cellAt' h, ← Array.getElem?_toList, Mg.toList]; exact hv
theorem OM.cell {w : World} {q : Nat} {m : Mg} (h : OM w q m) {j : Nat} {v : Value} (hv : m.list[j]? = some v) : w.cell? ⟨q, j, none⟩ = some v := by
  have := h.range j v hv; rwa [Nat.zero_add] at this
theorem OM.free {w : World} {q : Nat} {m : Mg} (h : OM w q m) (j : Nat) : w.frozen? ⟨q, j, none⟩ = false := frozenAt h j
theorem OM.set {w : World} {q j : Nat} {m m' : Mg} {v : Value} (h : OM w q m) (he : m.arr.setIfInBounds j v = m'.arr) : OM (w.setCell ⟨q, j, none⟩ v) q m' := by
  have := setAt (j := j) (x := v) h
  rw [he] at this; exact this
theorem loadM {ops : Array Oper} {rest : List Oper} {op : Oper} {c : Act} {w : World} {Q : Exit → Act → World → Prop} {x : Operand} {b : Nat} (m : Mg) (hgd : op.guard = none) (ho : op.op = .load 50 x)
    (hx : c.eval x = .pointer (some ⟨b, 0, none⟩)) (hc : OM w b m) (h : wpList Tryz.prog ops Q rest (c.put op.dst (.agg m.arr)) w) : wpList Tryz.prog ops Q (op :: rest) c w :=
  wpList_load_mid hgd 50 x ho b 0 hx m.list _ hc.range Tryz.underlying50 rfl (infoM m) h
theorem loadMl {ops : Array Oper} {rest : List Oper} {op : Oper} {c : Act} {w : World} {Q : Exit → Act → World → Prop} {x : Operand} {b o : Nat} (m : Mg) (hgd : op.guard = none) (ho : op.op = .load 50 x)
    (hx : c.eval x = .pointer (some ⟨b, o, none⟩)) (hc : w.rangeAt b o m.list) (h : wpList Tryz.prog ops Q rest (c.put op.dst (.agg m.arr)) w) : wpList Tryz.prog ops Q (op :: rest) c w :=
  wpList_load_mid hgd 50 x ho b o hx m.list _ hc Tryz.underlying50 rfl (infoM m) h
def RoomM (w : World) (q : Nat) : Prop := ∃ C : Array Value, w.heap[q]? = some (.cells C 50 (0, 0)) ∧ C.size = 20
theorem OM.room {w : World} {q : Nat} {m : Mg} (h : OM w q m) : RoomM w q := ⟨_, h, m.size⟩
theorem setsOM {w : World} {q : Nat} {C : Array Value} (m : Mg) (h : w.heap[q]? = some (.cells C 50 (0, 0))) (hs : C.size = 20) : OM (w.setCells q 0 m.arr.toList) q m := by
  obtain ⟨C', h1, h2, _, h4⟩ := setsAll m.arr.toList 0 C w h
  have : C' = m.arr := by
    apply Array.ext_getElem?
    intro j
    by_cases hj : j < 20
    · have := h4 j (by rw [Mg.toList, Mg.len]; exact hj) (by omega)
      rw [Nat.zero_add] at this
      rw [this]; simp
    · rw [Array.getElem?_eq_none (by omega), Array.getElem?_eq_none (by rw [Mg.size]; omega)]
  subst this
  exact h1
theorem storeM {ops : Array Oper} {rest : List Oper} {op : Oper} {c : Act} {w : World} {Q : Exit → Act → World → Prop} {x y : Operand} {b : Nat} (m : Mg) (hgd : op.guard = none) (ho : op.op = .store 50 x y)
    (hx : c.eval x = .pointer (some ⟨b, 0, none⟩)) (hy : c.eval y = .agg m.arr) (hC : RoomM w b) (h : ∀ W, OM W b m → Upd b w W → wpList Tryz.prog ops Q rest (c.put op.dst undef) W) : wpList Tryz.prog ops Q (op :: rest) c w := by
  obtain ⟨C, hC, hs⟩ := hC
  exact wpList_store_mid hgd 50 x y ho b 0 m.arr hx hy (thereOf hC (by rw [hs]; exact Nat.le_refl _)) (infoM' m) (Mg.one m) (h _ (setsOM m hC hs) (setsUpd w b _))
abbrev zS : Sv := ⟨none, 0, 0⟩
abbrev z7 : C7 := ⟨0, 0, 0, 0, 0, 0, 0⟩
abbrev zM : Mg := ⟨0, 0, 0, 0, z7, 0, zS, false, 0, 0, 0, zS, 0, zS⟩
abbrev zeroMc : Obj := .cells #[.int .i64 0, .int .i64 0, .int .i64 0, .int .i64 0, .int .i64 0, .int .i64 0, .int .i64 0, .int .i64 0, .int .i64 0, .int .i64 0, .int .i64 0, .int .i64 0, .slice none 0 0, .bool false, .int .i64 0, .int .i64 0, .int .i64 0, .slice none 0 0, .int .i64 0, .slice none 0 0] 50
theorem Tryz.infoMz : (Tryz.prog.info? 50).map (fun i => (i.zero, i.size, i.bytes)) = some (some (.agg zM.arr), 20, 208) := by kernel_rfl
structure Ms where
  m : Mg
  v : List C7
  a : List C7
  f : List C7
def Ms.at (w : World) (x : Ms) : Prop := Sl w x.m.vp.v x.v ∧ Sl w x.m.xp.v x.a ∧ Sl w x.m.fp.v x.f
theorem Ms.at.on {w w' : World} {x : Ms} (h : x.at w) (hb : Below w.heap.size w w') : x.at w' := ⟨h.1.on hb, h.2.1.on hb, h.2.2.on hb⟩
theorem Ms.at.tch {S : Nat → Prop} {w w' : World} {x : Ms} (h : x.at w) (ht : Tch S w w') (hS : ∀ k, S k → ∀ i, 6 ≤ i → w.cell? ⟨k, i, none⟩ = none) : x.at w' := ⟨h.1.tch ht hS, h.2.1.tch ht hS, h.2.2.tch ht hS⟩
def Ms.short (n : Nat) (x : Ms) : Prop := x.v.length ≤ n ∧ x.a.length ≤ n ∧ x.f.length ≤ n
abbrev kM : ∀ m : Mg, m.list.length = 20 := Mg.len
abbrev SlM (w : World) (v : Value) (ms : List Mg) : Prop := SlG Mg.list 20 w v ms
abbrev OwnM (w : World) (B : Nat) (v : Value) (ms : List Mg) : Prop := OwnG Mg.list 20 50 w B v ms
abbrev mgs (ms : List Ms) : List Mg := ms.map Ms.m
theorem at_mgs {ms : List Ms} {j : Nat} {x : Ms} (h : ms[j]? = some x) : (mgs ms)[j]? = some x.m := by unfold mgs; rw [List.getElem?_map, h]; rfl
structure An where
  so : Int
  fr : Int
  tt : Int
  bal : Int
  c : C7
  vt : Int
  vl : List C7
  fl : Bool
  s : Int
  ab : Int
  xt : Int
  xl : List C7
  ft : Int
  fpl : List C7
def Ms.an (x : Ms) : An := ⟨x.m.so, x.m.fr, x.m.tt, x.m.bal, x.m.c, x.m.vt, x.v, x.m.fl, x.m.s, x.m.ab, x.m.xt, x.a, x.m.ft, x.f⟩
abbrev zA : An := ⟨0, 0, 0, 0, z7, 0, [], false, 0, 0, 0, [], 0, []⟩
structure Bd where
  lo : Nat
  top : Nat
  P : Nat → Prop
  lt : ∀ k, P k → k < top
  le : lo ≤ top
def Bd.mk1 (n : Nat) : Bd := ⟨n, n, fun k => k < n, fun _ h => h, Nat.le_refl _⟩
structure Vx (w : World) (B : Bd) (q x b b2 n : Nat) (nd c : Int) (xs : List En) (ids : List Int) (v : Value) (ws : List Ms) (ov : Bool) : Prop where
  ob : w.heap[q]? = some (.cells #[ptr x, v, .bool ov] 59 (0, 0))
  ix : Ix w x b b2 n nd c xs ids
  ow : OwnM w B.lo v (mgs ws)
  aw : ∀ k, v.ownBlock = some k → ¬ B.P k
abbrev TV (q x b b2 : Nat) : Nat → Prop := fun k => k = q ∨ TI x b b2 k
section
variable {w w' : World} {B : Bd} {q x b b2 n : Nat} {nd c : Int} {xs : List En} {ids : List Int} {v : Value} {ws : List Ms} {ov : Bool}
theorem Vx.lt (h : Vx w B q x b b2 n nd c xs ids v ws ov) : q < w.heap.size := (Array.getElem?_eq_some_iff.1 h.ob).1
theorem Vx.qi (h : Vx w B q x b b2 n nd c xs ids v ws ov) : ¬ TI x b b2 q := by
  rintro (e | e | e)
  · have := h.ob
    rw [e, h.ix.ob] at this
    injection this with this
    injection this with _ e
    exact absurd e (by decide)
  · obtain ⟨es, k, hb⟩ := h.ix.mp.ob
    have := h.ob
    rw [e, hb] at this; cases this
  · obtain ⟨es, k, hb⟩ := h.ix.cg.ob
    have := h.ob
    rw [e, hb] at this; cases this
theorem Vx.off (h : Vx w B q x b b2 n nd c xs ids v ws ov) : ∀ k, v.ownBlock = some k → ¬ TV q x b b2 k := by
  rintro k hk (rfl | rfl | rfl | rfl)
  · exact own_off h.ow h.ob (fun cur e => absurd (Obj.cells.inj e).2.1 (by decide)) hk
  · exact own_off h.ow h.ix.ob (fun cur e => absurd (Obj.cells.inj e).2.1 (by decide)) hk
  · obtain ⟨es, j, hb⟩ := h.ix.mp.ob
    exact own_off h.ow hb (fun cur e => by cases e) hk
  · obtain ⟨es, j, hb⟩ := h.ix.cg.ob
    exact own_off h.ow hb (fun cur e => by cases e) hk
theorem Vx.nocell (h : Vx w B q x b b2 n nd c xs ids v ws ov) : ∀ k, TV q x b b2 k → ∀ i, 6 ≤ i → w.cell? ⟨k, i, none⟩ = none := by
  rintro k (rfl | hk) i hi
  · rw [cellAt' h.ob, Array.getElem?_eq_none (by simp; omega)]
  · exact h.ix.nocell k hk i hi
theorem Vx.on (h : Vx w B q x b b2 n nd c xs ids v ws ov) (hb : Below w.heap.size w w') : Vx w' B q x b b2 n nd c xs ids v ws ov := ⟨heapB h.ob hb h.lt, h.ix.on hb, h.ow.on hb, h.aw⟩
theorem Vx.cells (h : Vx w B q x b b2 n nd c xs ids v ws ov) : w.cell? ⟨q, 0, none⟩ = some (ptr x) ∧ w.cell? ⟨q, 1, none⟩ = some v ∧ w.cell? ⟨q, 2, none⟩ = some (.bool ov) ∧ w.frozen? ⟨q, 1, none⟩ = false ∧ w.frozen? ⟨q, 2, none⟩ = false :=
  ⟨(cellAt' h.ob 0).trans rfl, (cellAt' h.ob 1).trans rfl, (cellAt' h.ob 2).trans rfl, frozenAt h.ob 1, frozenAt h.ob 2⟩
theorem Vx.idx {n' : Nat} {c' : Int} {xs' : List En} {ids' : List Int} (h : Vx w B q x b b2 n nd c xs ids v ws ov) (ht : Tch (TI x b b2) w w') (hi : Ix w' x b b2 n' nd c' xs' ids') : Vx w' B q x b b2 n' nd c' xs' ids' v ws ov :=
  ⟨ht.ob h.ob h.qi, hi, own_tch h.ow ht fun k hk hs => h.off k hk (.inr hs), h.aw⟩
theorem Vx.over (h : Vx w B q x b b2 n nd c xs ids v ws ov) (o : Bool) : Vx (w.setCell ⟨q, 2, none⟩ (.bool o)) B q x b b2 n nd c xs ids v ws o ∧ Tch (fun k => k = q) w (w.setCell ⟨q, 2, none⟩ (.bool o)) := by
  have hT : Tch (fun k => k = q) w (w.setCell ⟨q, 2, none⟩ (.bool o)) := Tch.ofGrown (grownSet w ⟨q, 2, none⟩ (.bool o)) fun k e => (Option.some.inj e).symm
  refine ⟨⟨?_, h.ix.keptT hT (fun k hk e => h.qi (e ▸ hk)), own_tch h.ow hT fun k hk hs => h.off k hk (.inl hs), h.aw⟩, hT⟩
  have := setAt (j := 2) (x := .bool o) h.ob
  simpa using this
theorem Vx.wait {v' : Value} {ws' : List Ms} (h : Vx w B q x b b2 n nd c xs ids v ws ov) (hv : OwnM w B.lo v' (mgs ws')) (ha : ∀ k, v'.ownBlock = some k → ¬ B.P k) : Vx (w.setCell ⟨q, 1, none⟩ v') B q x b b2 n nd c xs ids v' ws' ov ∧ Tch (fun k => k = q) w (w.setCell ⟨q, 1, none⟩ v') := by
  have hT : Tch (fun k => k = q) w (w.setCell ⟨q, 1, none⟩ v') := Tch.ofGrown (grownSet w ⟨q, 1, none⟩ v') fun k e => (Option.some.inj e).symm
  refine ⟨⟨?_, h.ix.keptT hT (fun k hk e => h.qi (e ▸ hk)), own_tch hv hT fun k hk hs => ?_, ha⟩, hT⟩
  · have := setAt (j := 1) (x := v') h.ob
    simpa using this
  · subst hs; exact own_off hv h.ob (fun cur e => absurd (Obj.cells.inj e).2.1 (by decide)) hk
theorem Vx.mono {n' : Nat} (h : Vx w B q x b b2 n nd c xs ids v ws ov) (hn : n ≤ n') : Vx w B q x b b2 n' nd c xs ids v ws ov := ⟨h.ob, h.ix.mono hn, h.ow, h.aw⟩
end
end Go.Proofs.YtlehcaacfgocaaaGreat
