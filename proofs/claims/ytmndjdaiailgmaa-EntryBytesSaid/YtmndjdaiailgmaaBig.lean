/- Entries by value, their cells behind one name: what loads, stores and results of them come to. -/
import Derived.Test.YtmndjdaiailgmaaEnt
import Derived.Deep.MidRow
import Derived.Laws.ResultCell
namespace Go.Proofs.Ytmndjdaiailgmaa
set_option linter.unusedVariables false
open Go.RowKit
open Go.Lib (hid)

/-- A slice's three words. -/
structure Sv where
  a : Option Addr
  n : Nat
  c : Nat
/-- An entry's words. -/
structure Ev where
  c : C7
  pr : Int
  lo : Int
  hi : Int
  ft : Int
  fp : Sv
  ab : Int
  xt : Int
  xp : Sv
  fr : Bool
  dn : Bool
  vt : Int
  vp : Sv
abbrev Sv.v (s : Sv) : Value := .slice s.a s.n s.c
/-- Its cells. -/
def Ev.list (e : Ev) : List Value := [.int .i64 e.c.i, .int .i64 e.c.k, .int .i64 e.c.s, .int .i64 e.c.t, .int .i64 e.c.d, .int .i64 e.c.p, .int .i64 e.c.q, .int .i64 e.pr, .int .i64 e.lo, .int .i64 e.hi, .int .i64 e.ft, e.fp.v, .int .i64 e.ab, .int .i64 e.xt, e.xp.v, .bool e.fr, .bool e.dn, .int .i64 e.vt, e.vp.v]
def Ev.arr (e : Ev) : Array Value := e.list.toArray
theorem Ev.len (e : Ev) : e.list.length = 19 := rfl
theorem Ev.size (e : Ev) : e.arr.size = 19 := rfl
theorem Ev.toList (e : Ev) : e.arr.toList = e.list := by unfold Ev.arr; simp
theorem Ev.one (e : Ev) : e.arr.all (·.oneCell') = true := all_oneCell_toArray fun v hv => by
  unfold Ev.list at hv; simp at hv
  rcases hv with h | h | h | h | h | h | h | h | h | h | h | h | h | h | h | h | h | h | h <;> subst h <;> rfl

theorem rangeNew (w : World) (e : Ev) (T : TypeId) : (w.alloc (.cells e.arr T)).rangeAt w.heap.size 0 e.list := fun j v hv => by
  rw [Nat.zero_add, World.cell?_alloc_new, ← Ev.toList] at *
  simpa using hv
theorem thereNew (w : World) (C : Array Value) (T : TypeId) (n : Nat) (h : n ≤ C.size) : (w.alloc (.cells C T)).there w.heap.size 0 n := fun j hj => by
  rw [Nat.zero_add, World.cell?_alloc_new]
  refine ⟨?_, frozenAt (vs := C) (t := T) (heap_alloc_new w (.cells C T)) j⟩
  rw [Array.getElem?_eq_getElem (by omega)]; rfl
theorem below_cells {B : Nat} {a : World} {b : Nat} (hb : B ≤ b) : ∀ (vs : List Value) (o : Nat) (w : World), Below B a w → Below B a (w.setCells b o vs)
  | [], o, w, h => h
  | v :: vs, o, w, h => by
    show Below B a ((w.setCell ⟨b, o, none⟩ v).setCells b (o + 1) vs)
    exact below_cells hb vs (o + 1) _ (h.setCell hb v)
theorem rangeSet {w : World} {b j : Nat} {cs : List Value} {v : Value} (h : w.rangeAt b 0 cs) (hj : j < cs.length) : (w.setCell ⟨b, j, none⟩ v).rangeAt b 0 (cs.set j v) := fun i u hu => by
  rw [Nat.zero_add]
  have hi := (List.getElem?_eq_some_iff.1 hu).1
  rw [List.length_set] at hi
  by_cases e : j = i
  · subst e
    rw [List.getElem?_set_self hj] at hu
    have h0 := h j _ (List.getElem?_eq_getElem hj)
    rw [Nat.zero_add] at h0
    rw [World.cell?_setCell_same (h := h0)]; exact hu
  · rw [List.getElem?_set_ne e] at hu
    have h0 := h i u hu
    rw [Nat.zero_add] at h0
    rw [World.cell?_setCell_other (h := by intro hh; cases hh; exact e rfl)]; exact h0
theorem thereSet {w : World} {b n : Nat} {a : Addr} {v : Value} (h : w.there b 0 n) : (w.setCell a v).there b 0 n := fun j hj => by
  obtain ⟨h1, h2⟩ := h j hj
  obtain ⟨u, hu⟩ := Option.isSome_iff_exists.1 h1
  obtain ⟨u', hu'⟩ := cell?_setCell_some (p := a) (x := v) hu
  exact ⟨by rw [hu']; rfl, by rw [World.frozen?_setCell]; exact h2⟩
theorem ret_cell_tmp {P : Program} {fn : Func} {a : Act} {w : World} {p u : Tmp} {ty : TypeId} {b o : Nat} {cs : List Value} {d : TypeDesc} {v : Value} (h : fn.results = #[.cell p ty, .tmp u]) (hp : a.tmps.getD p undef = .pointer (some ⟨b, o, none⟩)) (hu : a.tmps.getD u undef = v)
    (hc : w.rangeAt b o cs) (ht : P.underlying ty = some d) (hd : d.isRow = true) (hi : (P.info? ty).map (·.size) = some cs.length) : (results fn a.tmps).run P w = .ok (.tuple #[.agg cs.toArray, v]) w := by
  rw [results_cell_tmp h, hp, hu]
  simp [asAddr, run_loadVar_mid w b o ty cs d hc ht hd hi, Result.andThen]
theorem infoE (e : Ev) : (Try.prog.info? 36).map (·.size) = some e.list.length := by rw [Ev.len]; kernel_rfl
theorem infoE' (e : Ev) : (Try.prog.info? 36).map (·.size) = some e.arr.size := by rw [Ev.size]; kernel_rfl

def promE (e : Ev) (b : Int) : Ev × Int := if withinB b 1048576 = false then (e, 1) else if b < e.pr then (e, 11) else ({ e with pr := b }, 0)

abbrev zeroE : Obj := .cells #[.int .i64 0, .int .i64 0, .int .i64 0, .int .i64 0, .int .i64 0, .int .i64 0, .int .i64 0, .int .i64 0, .int .i64 0, .int .i64 0, .int .i64 0, .slice none 0 0, .int .i64 0, .int .i64 0, .slice none 0 0, .bool false, .bool false, .int .i64 0, .slice none 0 0] 36
abbrev boxE (w : World) (e : Ev) : World := (w.alloc (.cells e.arr 36)).alloc zeroE
theorem boxE_range (w : World) (e : Ev) : (boxE w e).rangeAt w.heap.size 0 e.list := World.rangeAt_alloc (rangeNew w e _) _
theorem boxE_there (w : World) (e : Ev) : (boxE w e).there (w.heap.size + 1) 0 19 := by
  have := thereNew (w.alloc (.cells e.arr 36)) #[.int .i64 0, .int .i64 0, .int .i64 0, .int .i64 0, .int .i64 0, .int .i64 0, .int .i64 0, .int .i64 0, .int .i64 0, .int .i64 0, .int .i64 0, .slice none 0 0, .int .i64 0, .int .i64 0, .slice none 0 0, .bool false, .bool false, .int .i64 0, .slice none 0 0] 36 19 (by decide)
  rwa [World.size_alloc] at this
theorem boxE_frozen (w : World) (e : Ev) (j : Nat) : (boxE w e).frozen? ⟨w.heap.size, j, none⟩ = false := by
  have h : (boxE w e).heap[w.heap.size]? = some (.cells e.arr 36) := (Below.heap_alloc _ _ _ (by simp)).trans (heap_alloc_new w _)
  exact frozenAt h j
theorem boxE_below (w : World) (e : Ev) : Below w.heap.size w (boxE w e) := ((Below.refl _ w).alloc (Nat.le_refl _) _).alloc (by simp) _
theorem setsE {w : World} {b : Nat} {e : Ev} (h : w.there b 0 19) : (w.setCells b 0 e.arr.toList).rangeAt b 0 e.list := by
  rw [Ev.toList]; exact World.rangeAt_setCells_same w b 0 e.list h

set_option maxHeartbeats 1600000 in
set_option maxRecDepth 100000 in
theorem rPromise (e : Ev) (b : Int) (w : World) : Calls Try.prog 28 #[.agg e.arr, .int .i64 b] w fun x w' => x = .returned (.tuple #[.agg (promE e b).1.arr, .int .i64 (promE e b).2]) ∧ Below w.heap.size w w' := by
  have hB := fun W => rBallot b W
  have hr := boxE_range w e
  have ht := boxE_there w e
  have c7 : (boxE w e).cell? ⟨w.heap.size, 7, none⟩ = some (.int .i64 e.pr) := by have := hr 7 _ rfl; rwa [Nat.zero_add] at this
  have f7 := boxE_frozen w e 7
  rcases hb : withinB b 1048576 with _ | _
  · rw [hb] at hB
    have HE := hid (show promE e b = (e, 1) by unfold promE; rw [hb]; rfl)
    clear hb
    go_enter Try.func28, Try.ntmps28
    go_wp2_with (first
      | (go_at_call 45; refine (hB _).mono ?_; rintro e w' ⟨rfl, rfl⟩)
      | (refine wpList_load_mid rfl 36 _ rfl _ _ rfl e.list _ hr Try.underlying36 rfl (infoE e) ?_)
      | (refine wpList_store_mid rfl 36 _ _ rfl _ _ e.arr rfl rfl ht (infoE' e) (Ev.one e) ?_))
    refine bodyPost_ret (ret_cell_tmp rfl rfl rfl (setsE ht) Try.underlying36 rfl (infoE e)) rfl ⟨by rw [HE.out]; rfl, ?_⟩
    exact below_cells (by omega) _ _ _ (boxE_below w e)
  · rw [hb] at hB
    by_cases h1 : b < e.pr
    · have HE := hid (show promE e b = (e, 11) by unfold promE; rw [hb, if_neg (by simp), if_pos h1])
      clear hb
      go_enter Try.func28, Try.ntmps28
      go_wp2_with (first
        | (go_at_call 45; refine (hB _).mono ?_; rintro e w' ⟨rfl, rfl⟩)
        | (refine wpList_load_mid rfl 36 _ rfl _ _ rfl e.list _ hr Try.underlying36 rfl (infoE e) ?_)
        | (refine wpList_store_mid rfl 36 _ _ rfl _ _ e.arr rfl rfl ht (infoE' e) (Ev.one e) ?_))
      refine bodyPost_ret (ret_cell_tmp rfl rfl rfl (setsE ht) Try.underlying36 rfl (infoE e)) rfl ⟨by rw [HE.out]; rfl, ?_⟩
      exact below_cells (by omega) _ _ _ (boxE_below w e)
    · have HE := hid (show promE e b = ({ e with pr := b }, 0) by unfold promE; rw [hb, if_neg (by simp), if_neg h1])
      clear hb
      obtain ⟨e', he'⟩ : ∃ e' : Ev, e' = { e with pr := b } := ⟨_, rfl⟩
      have hArr : e.arr.setIfInBounds 7 (.int .i64 b) = e'.arr := by rw [he']; rfl
      have hr' : ((w.alloc (.cells (e.arr.setIfInBounds 7 (.int .i64 b)) 36)).alloc zeroE).rangeAt w.heap.size 0 e'.list := by rw [hArr]; exact boxE_range w e'
      have ht' : ((w.alloc (.cells (e.arr.setIfInBounds 7 (.int .i64 b)) 36)).alloc zeroE).there (w.heap.size + 1) 0 19 := by rw [hArr]; exact boxE_there w e'
      have hb' : Below w.heap.size w ((w.alloc (.cells (e.arr.setIfInBounds 7 (.int .i64 b)) 36)).alloc zeroE) := by rw [hArr]; exact boxE_below w e'
      have HE' := hid he'
      clear hArr he'
      go_enter Try.func28, Try.ntmps28
      go_wp2_with (first
        | (go_at_call 45; refine (hB _).mono ?_; rintro e w' ⟨rfl, rfl⟩)
        | (refine wpList_load_mid rfl 36 _ rfl _ _ rfl e'.list _ hr' Try.underlying36 rfl (infoE e') ?_)
        | (refine wpList_store_mid rfl 36 _ _ rfl _ _ e'.arr rfl rfl ht' (infoE' e') (Ev.one e') ?_))
      refine bodyPost_ret (ret_cell_tmp rfl rfl rfl (setsE ht') Try.underlying36 rfl (infoE e')) rfl ⟨by rw [HE.out, ← HE'.out]; rfl, ?_⟩
      exact below_cells (by omega) _ _ _ hb'
end Go.Proofs.Ytmndjdaiailgmaa
