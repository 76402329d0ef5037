import Derived.Test.YtogoibigabpkhaaGreatG04
import Derived.Test.YtogoibigabpkhaaGreatG06
import Derived.Test.YtogoibigabpkhaaGreatG05
import Derived.Deep.MidRow
import Derived.Laws.ResultCell
import Derived.Deep.Light
/- Entries: the raw cells of one, and what the document asks of it; Valid, ballot, Full, None, must; SameValue of any two values. -/


namespace Go.Proofs.YtogoibigabpkhaaGreat
set_option linter.unusedVariables false
open Go.RowKit
open Go.Lib (hid)

def validB (t : Int) : Bool := decide (16 ≤ t ∧ t < 1048576 ∧ t % 16 ≤ 8)
theorem rValid (t : Int) (w : World) : Calls Tryz.prog 70 #[.int .i64 t] w fun e w' => e = .returned (.bool (validB t)) ∧ w = w' := by
  by_cases h0 : 16 ≤ t
  · by_cases h1 : t < 1048576
    · by_cases h2 : t % 16 ≤ 8
      · go_enter Tryz.func70, Tryz.ntmps70
        go_wp2
        go_ret
        exact ⟨ret_bool (by unfold validB; symm; simp; omega), rfl⟩
      · go_enter Tryz.func70, Tryz.ntmps70
        go_wp2
        go_ret
        exact ⟨ret_bool (by unfold validB; symm; simp; omega), rfl⟩
    · go_enter Tryz.func70, Tryz.ntmps70
      go_wp2
      go_ret
      exact ⟨ret_bool (by unfold validB; symm; simp; omega), rfl⟩
  · go_enter Tryz.func70, Tryz.ntmps70
    go_wp2
    go_ret
    exact ⟨ret_bool (by unfold validB; symm; simp; omega), rfl⟩
theorem rBallot (t : Int) (w : World) : Calls Tryz.prog 72 #[.int .i64 t] w fun e w' => e = .returned (.bool (withinB t 1048576)) ∧ w = w' := by
  by_cases h0 : 0 ≤ t
  · go_enter Tryz.func72, Tryz.ntmps72
    go_wp2
    go_ret
    exact ⟨ret_bool (by unfold withinB; symm; simp; omega), rfl⟩
  · go_enter Tryz.func72, Tryz.ntmps72
    go_wp2
    go_ret
    exact ⟨ret_bool (by unfold withinB; symm; simp; omega), rfl⟩

def fullB (t : Int) (l : List C7) : Bool := validB t && setB l
def noneB (t : Int) (l : List C7) : Bool := decide (t = 0) && decide (l.length = 0)
def mustB (t : Int) (l : List C7) (is : Bool) : Bool := (is && fullB t l) || (!is && noneB t l)
abbrev boxV (t : Int) (v : Value) : Obj := .cells #[.int .i64 t, v] 42

set_option maxHeartbeats 600000 in
set_option maxRecDepth 100000 in
theorem rFull {v : Value} {l : List C7} {w : World} (t : Int) (h : Sl w v l) (hl : l.length ≤ 1024) : Calls Tryz.prog 101 #[.agg #[.int .i64 t, v]] w fun e w' => e = .returned (.bool (fullB t l)) ∧ Below w.heap.size w w' := by
  obtain ⟨_, _, cap, a, hv, _⟩ := id h
  subst hv
  have hS := rSetRight (h.on ((Below.refl _ w).alloc (Nat.le_refl _) (boxV t (.slice a l.length cap)))) hl
  have hV := fun W => rValid t W
  rcases hv : validB t with _ | _
  · rw [hv] at hV
    have HE := hid (show fullB t l = false by unfold fullB; rw [hv]; rfl)
    clear hv
    go_enter Tryz.func101, Tryz.ntmps101
    go_wp2_with (first | (go_at_call 70; refine (hV _).mono ?_; rintro e w' ⟨rfl, rfl⟩) | (go_at_call 116; refine hS.mono ?_; rintro e w1 ⟨rfl, hB⟩; have HB := hid hB; clear hB))
    go_ret
    exact ⟨ret_bool HE.out.symm, ((Below.refl _ w).alloc (Nat.le_refl _) _).trans (HB.out.mono (by simp))⟩
  · rw [hv] at hV
    have HE := hid (show fullB t l = setB l by unfold fullB; rw [hv]; rfl)
    clear hv
    go_enter Tryz.func101, Tryz.ntmps101
    go_wp2_with (first | (go_at_call 70; refine (hV _).mono ?_; rintro e w' ⟨rfl, rfl⟩) | (go_at_call 116; refine hS.mono ?_; rintro e w1 ⟨rfl, hB⟩; have HB := hid hB; clear hB))
    go_ret
    exact ⟨ret_bool HE.out.symm, ((Below.refl _ w).alloc (Nat.le_refl _) _).trans (HB.out.mono (by simp))⟩

set_option maxHeartbeats 600000 in
set_option maxRecDepth 100000 in
theorem rNone {a : Option Addr} {n cap : Nat} {l : List C7} {w : World} (t : Int) (hn : n = l.length) : Calls Tryz.prog 102 #[.agg #[.int .i64 t, .slice a n cap]] w fun e w' => e = .returned (.bool (noneB t l)) ∧ Below w.heap.size w w' := by
  have HN := hid (show noneB t l = (decide (t = 0) && decide (n = 0)) by unfold noneB; rw [hn])
  clear hn
  by_cases ht : t = 0
  · subst ht
    go_enter Tryz.func102, Tryz.ntmps102
    go_wp2
    go_ret
    exact ⟨ret_bool (by rw [HN.out, Bool.eq_iff_iff]; simp), (Below.refl _ w).alloc (Nat.le_refl _) _⟩
  · go_enter Tryz.func102, Tryz.ntmps102
    go_wp2
    go_ret
    exact ⟨ret_bool (by rw [HN.out]; simp [ht]), (Below.refl _ w).alloc (Nat.le_refl _) _⟩

set_option maxHeartbeats 600000 in
set_option maxRecDepth 100000 in
theorem rMust {v : Value} {l : List C7} {w : World} (t : Int) (is : Bool) (h : Sl w v l) (hl : l.length ≤ 1024) : Calls Tryz.prog 71 #[.agg #[.int .i64 t, v], .bool is] w fun e w' => e = .returned (.bool (mustB t l is)) ∧ Below w.heap.size w w' := by
  have H := hid h
  obtain ⟨_, _, cap, a, hv, _⟩ := id h
  subst hv
  have hF := rFull t (h.on ((Below.refl _ w).alloc (Nat.le_refl _) (boxV t (.slice a l.length cap)))) hl
  have hN := fun W => rNone (a := a) (cap := cap) (l := l) (w := W) t rfl
  have HE := hid (show mustB t l is = ((is && fullB t l) || (!is && noneB t l)) from rfl)
  clear h
  rcases is with _ | _
  all_goals (
    go_enter Tryz.func71, Tryz.ntmps71
    go_wp2_with (first
      | (go_at_call 101; (
          refine hF.mono ?_
          rintro e w1 ⟨rfl, hB⟩
          obtain ⟨hcell, hz, hBw⟩ := box_cells hB
          have k0 : w1.cell? ⟨w.heap.size, 0, none⟩ = some (.int .i64 t) := hcell 0
          have k1 : w1.cell? ⟨w.heap.size, 1, none⟩ = some (.slice a l.length cap) := hcell 1
          have HB := hid hBw
          clear hB hcell hBw))
      | (go_at_call 102; (
          refine (hN _).mono ?_
          rintro e w2 ⟨rfl, hB⟩
          have HB2 := hid (HB.out.trans (hB.mono HB.out.size))
          clear hB)))
    all_goals (
      go_ret
      exact ⟨ret_bool (by rw [HE.out]; simp_all), HB2.out⟩))

set_option maxHeartbeats 1600000 in
set_option maxRecDepth 100000 in
theorem rSameVG {v v' : Value} {cs ds : List C7} {w : World} (t t' : Int) (h : Sl w v cs) (h' : Sl w v' ds) (hl : cs.length ≤ 100000) (hl' : ds.length ≤ 100000) : Calls Tryz.prog 78 #[.agg #[.int .i64 t, v], .agg #[.int .i64 t', v']] w fun e w' => e = .returned (.bool (decide (t = t') && sameB cs ds)) ∧ Below w.heap.size w w' := by
  have H := hid h
  have H' := hid h'
  obtain ⟨_, _, cap, a, rfl, _⟩ := h
  obtain ⟨_, _, cap', a', rfl, _⟩ := h'
  have hS := rSame (H.out.on (((Below.refl _ w).alloc (Nat.le_refl _) (boxV t (.slice a cs.length cap))).alloc (by simp) (boxV t' (.slice a' ds.length cap')))) (H'.out.on (((Below.refl _ w).alloc (Nat.le_refl _) (boxV t (.slice a cs.length cap))).alloc (by simp) (boxV t' (.slice a' ds.length cap')))) hl hl'
  have hT : (t = t' ∧ t' = t) ∨ ¬ t = t' := by omega
  rcases hT with ⟨ht, _⟩ | ht
  · subst ht
    go_enter Tryz.func78, Tryz.ntmps78
    go_wp2_with (go_at_call 46; (
      refine hS.mono ?_
      rintro e w1 ⟨rfl, hB⟩
      have hs1 := hB.size
      have k0 : w1.cell? ⟨w.heap.size, 0, none⟩ = some (.int .i64 t) := (hB.cell (p := ⟨w.heap.size, 0, none⟩) (by simp; omega)).trans (by simp [go_sem])
      have k1 : w1.cell? ⟨w.heap.size + 1, 0, none⟩ = some (.int .i64 t) := (hB.cell (p := ⟨w.heap.size + 1, 0, none⟩) (by simp)).trans (by simp [go_sem])
      have HB := hid hB
      clear hB))
    go_ret
    exact ⟨ret_bool (by simp), (((Below.refl _ w).alloc (Nat.le_refl _) _).alloc (by simp) _).trans (HB.out.mono (by simp; omega))⟩
  all_goals (
    go_enter Tryz.func78, Tryz.ntmps78
    go_wp2_with (go_at_call 46; (
      refine hS.mono ?_
      rintro e w1 ⟨rfl, hB⟩
      have hs1 := hB.size
      have k0 : w1.cell? ⟨w.heap.size, 0, none⟩ = some (.int .i64 t) := (hB.cell (p := ⟨w.heap.size, 0, none⟩) (by simp; omega)).trans (by simp [go_sem])
      have k1 : w1.cell? ⟨w.heap.size + 1, 0, none⟩ = some (.int .i64 t') := (hB.cell (p := ⟨w.heap.size + 1, 0, none⟩) (by simp)).trans (by simp [go_sem])
      have HB := hid hB
      clear hB))
    go_ret
    exact ⟨ret_bool (by simp [ht]), (((Below.refl _ w).alloc (Nat.le_refl _) _).alloc (by simp) _).trans (HB.out.mono (by simp; omega))⟩)
end Go.Proofs.YtogoibigabpkhaaGreat
/- Entries by value, their cells behind one name: what loads, stores and results of them come to. -/
namespace Go.Proofs.YtogoibigabpkhaaGreat
set_option linter.unusedVariables false
open Go.RowKit
open Go.Lib (hid)

/-- A slice's three words. -/
structure Sv where
  a : Option Addr
  n : Nat
  c : Nat
/-- An entry's words. -/
structure Ev where
  c : C7
  pr : Int
  lo : Int
  hi : Int
  ft : Int
  fp : Sv
  ab : Int
  xt : Int
  xp : Sv
  fr : Bool
  dn : Bool
  vt : Int
  vp : Sv
abbrev Sv.v (s : Sv) : Value := .slice s.a s.n s.c
/-- Its cells. -/
def Ev.list (e : Ev) : List Value := [.int .i64 e.c.i, .int .i64 e.c.k, .int .i64 e.c.s, .int .i64 e.c.t, .int .i64 e.c.d, .int .i64 e.c.p, .int .i64 e.c.q, .int .i64 e.pr, .int .i64 e.lo, .int .i64 e.hi, .int .i64 e.ft, e.fp.v, .int .i64 e.ab, .int .i64 e.xt, e.xp.v, .bool e.fr, .bool e.dn, .int .i64 e.vt, e.vp.v]
def Ev.arr (e : Ev) : Array Value := e.list.toArray
theorem Ev.len (e : Ev) : e.list.length = 19 := rfl
theorem Ev.size (e : Ev) : e.arr.size = 19 := rfl
theorem Ev.toList (e : Ev) : e.arr.toList = e.list := by unfold Ev.arr; simp
theorem Ev.one (e : Ev) : e.arr.all (·.oneCell') = true := all_oneCell_toArray fun v hv => by
  unfold Ev.list at hv; simp at hv
  rcases hv with h | h | h | h | h | h | h | h | h | h | h | h | h | h | h | h | h | h | h <;> subst h <;> rfl

theorem rangeNew (w : World) (e : Ev) (T : TypeId) : (w.alloc (.cells e.arr T)).rangeAt w.heap.size 0 e.list := fun j v hv => by
  rw [Nat.zero_add, World.cell?_alloc_new, ← Ev.toList] at *
  simpa using hv
theorem thereNew (w : World) (C : Array Value) (T : TypeId) (n : Nat) (h : n ≤ C.size) : (w.alloc (.cells C T)).there w.heap.size 0 n := fun j hj => by
  rw [Nat.zero_add, World.cell?_alloc_new]
  refine ⟨?_, frozenAt (vs := C) (t := T) (heap_alloc_new w (.cells C T)) j⟩
  rw [Array.getElem?_eq_getElem (by omega)]; rfl
theorem below_cells {B : Nat} {a : World} {b : Nat} (hb : B ≤ b) : ∀ (vs : List Value) (o : Nat) (w : World), Below B a w → Below B a (w.setCells b o vs)
  | [], o, w, h => h
  | v :: vs, o, w, h => by
    show Below B a ((w.setCell ⟨b, o, none⟩ v).setCells b (o + 1) vs)
    exact below_cells hb vs (o + 1) _ (h.setCell hb v)
theorem rangeSet {w : World} {b j : Nat} {cs : List Value} {v : Value} (h : w.rangeAt b 0 cs) (hj : j < cs.length) : (w.setCell ⟨b, j, none⟩ v).rangeAt b 0 (cs.set j v) := fun i u hu => by
  rw [Nat.zero_add]
  have hi := (List.getElem?_eq_some_iff.1 hu).1
  rw [List.length_set] at hi
  by_cases e : j = i
  · subst e
    rw [List.getElem?_set_self hj] at hu
    have h0 := h j _ (List.getElem?_eq_getElem hj)
    rw [Nat.zero_add] at h0
    rw [World.cell?_setCell_same (h := h0)]; exact hu
  · rw [List.getElem?_set_ne e] at hu
    have h0 := h i u hu
    rw [Nat.zero_add] at h0
    rw [World.cell?_setCell_other (h := by intro hh; cases hh; exact e rfl)]; exact h0
theorem thereSet {w : World} {b n : Nat} {a : Addr} {v : Value} (h : w.there b 0 n) : (w.setCell a v).there b 0 n := fun j hj => by
  obtain ⟨h1, h2⟩ := h j hj
  obtain ⟨u, hu⟩ := Option.isSome_iff_exists.1 h1
  obtain ⟨u', hu'⟩ := cell?_setCell_some (p := a) (x := v) hu
  exact ⟨by rw [hu']; rfl, by rw [World.frozen?_setCell]; exact h2⟩
theorem ret_cell_tmp {P : Program} {fn : Func} {a : Act} {w : World} {p u : Tmp} {ty : TypeId} {b o : Nat} {cs : List Value} {d : TypeDesc} {v : Value} (h : fn.results = #[.cell p ty, .tmp u]) (hp : a.tmps.getD p undef = .pointer (some ⟨b, o, none⟩)) (hu : a.tmps.getD u undef = v)
    (hc : w.rangeAt b o cs) (ht : P.underlying ty = some d) (hd : d.isRow = true) (hi : (P.info? ty).map (·.size) = some cs.length) : (results fn a.tmps).run P w = .ok (.tuple #[.agg cs.toArray, v]) w := by
  rw [results_cell_tmp h, hp, hu]
  simp [asAddr, run_loadVar_mid w b o ty cs d hc ht hd hi, Result.andThen]
theorem infoE (e : Ev) : (Tryz.prog.info? 74).map (·.size) = some e.list.length := by rw [Ev.len]; kernel_rfl
theorem infoE' (e : Ev) : (Tryz.prog.info? 74).map (·.size) = some e.arr.size := by rw [Ev.size]; kernel_rfl

def promE (e : Ev) (b : Int) : Ev × Int := if withinB b 1048576 = false then (e, 1) else if b < e.pr then (e, 11) else ({ e with pr := b }, 0)

abbrev zeroE : Obj := .cells #[.int .i64 0, .int .i64 0, .int .i64 0, .int .i64 0, .int .i64 0, .int .i64 0, .int .i64 0, .int .i64 0, .int .i64 0, .int .i64 0, .int .i64 0, .slice none 0 0, .int .i64 0, .int .i64 0, .slice none 0 0, .bool false, .bool false, .int .i64 0, .slice none 0 0] 74
abbrev boxE (w : World) (e : Ev) : World := (w.alloc (.cells e.arr 74)).alloc zeroE
theorem boxE_range (w : World) (e : Ev) : (boxE w e).rangeAt w.heap.size 0 e.list := World.rangeAt_alloc (rangeNew w e _) _
theorem boxE_there (w : World) (e : Ev) : (boxE w e).there (w.heap.size + 1) 0 19 := by
  have := thereNew (w.alloc (.cells e.arr 74)) #[.int .i64 0, .int .i64 0, .int .i64 0, .int .i64 0, .int .i64 0, .int .i64 0, .int .i64 0, .int .i64 0, .int .i64 0, .int .i64 0, .int .i64 0, .slice none 0 0, .int .i64 0, .int .i64 0, .slice none 0 0, .bool false, .bool false, .int .i64 0, .slice none 0 0] 74 19 (by decide)
  rwa [World.size_alloc] at this
theorem boxE_frozen (w : World) (e : Ev) (j : Nat) : (boxE w e).frozen? ⟨w.heap.size, j, none⟩ = false := by
  have h : (boxE w e).heap[w.heap.size]? = some (.cells e.arr 74) := (Below.heap_alloc _ _ _ (by simp)).trans (heap_alloc_new w _)
  exact frozenAt h j
theorem boxE_below (w : World) (e : Ev) : Below w.heap.size w (boxE w e) := ((Below.refl _ w).alloc (Nat.le_refl _) _).alloc (by simp) _
theorem setsE {w : World} {b : Nat} {e : Ev} (h : w.there b 0 19) : (w.setCells b 0 e.arr.toList).rangeAt b 0 e.list := by
  rw [Ev.toList]; exact World.rangeAt_setCells_same w b 0 e.list h

end Go.Proofs.YtogoibigabpkhaaGreat
/- Entries by value: the document's Reserve, Ahead, Holds, and Of. -/
namespace Go.Proofs.YtogoibigabpkhaaGreat
set_option linter.unusedVariables false
open Go.RowKit
open Go.Lib (hid)

def loE (e : Ev) (t : Int) : Int := if e.lo = 0 ∨ t < e.lo then t else e.lo
def hiE (e : Ev) (t : Int) : Int := if e.hi < t then t else e.hi
def resE (e : Ev) (t : Int) : Ev × Int := if validB t = false then (e, 1) else ({ e with lo := loE e t, hi := hiE e t }, 0)
def aheadE (e : Ev) (t : Int) : Bool := if e.dn = true then decide (e.vt < t) else (!decide (e.lo = 0) && decide (e.lo < t))
def holdsE (e : Ev) (t : Int) : Bool := !e.dn && decide (t < e.hi)
theorem boxE_cell (w : World) (e : Ev) {j : Nat} {v : Value} (h : e.list[j]? = some v) : (boxE w e).cell? ⟨w.heap.size, j, none⟩ = some v := by
  have := boxE_range w e j v h; rwa [Nat.zero_add] at this
theorem newE_cell (w : World) (e : Ev) (T : TypeId) {j : Nat} {v : Value} (h : e.list[j]? = some v) : (w.alloc (.cells e.arr T)).cell? ⟨w.heap.size, j, none⟩ = some v := by
  have := rangeNew w e T j v h; rwa [Nat.zero_add] at this

set_option maxHeartbeats 1600000 in
set_option maxRecDepth 100000 in
theorem rAheadE (e : Ev) (t : Int) (w : World) : Calls Tryz.prog 84 #[.agg e.arr, .int .i64 t] w fun x w' => x = .returned (.bool (aheadE e t)) ∧ Below w.heap.size w w' := by
  have c8 := newE_cell w e 74 (j := 8) rfl
  have c16 := newE_cell w e 74 (j := 16) rfl
  have c17 := newE_cell w e 74 (j := 17) rfl
  have hb : Below w.heap.size w (w.alloc (.cells e.arr 74)) := (Below.refl _ w).alloc (Nat.le_refl _) _
  rcases hd : e.dn with _ | _
  · rw [hd] at c16
    have HE := hid (show aheadE e t = (!decide (e.lo = 0) && decide (e.lo < t)) by unfold aheadE; rw [hd]; rfl)
    clear hd
    by_cases h0 : e.lo = 0
    · go_enter Tryz.func84, Tryz.ntmps84
      go_wp2
      go_ret
      exact ⟨ret_bool (by rw [HE.out]; simp [h0]), hb⟩
    · go_enter Tryz.func84, Tryz.ntmps84
      go_wp2
      go_ret
      exact ⟨ret_bool (by rw [HE.out]; simp [h0]), hb⟩
  · rw [hd] at c16
    have HE := hid (show aheadE e t = decide (e.vt < t) by unfold aheadE; rw [hd]; rfl)
    clear hd
    go_enter Tryz.func84, Tryz.ntmps84
    go_wp2
    go_ret
    exact ⟨ret_bool (by rw [HE.out]), hb⟩

set_option maxHeartbeats 1600000 in
set_option maxRecDepth 100000 in
theorem rHoldsE (e : Ev) (t : Int) (w : World) : Calls Tryz.prog 85 #[.agg e.arr, .int .i64 t] w fun x w' => x = .returned (.bool (holdsE e t)) ∧ Below w.heap.size w w' := by
  have c9 := newE_cell w e 74 (j := 9) rfl
  have c16 := newE_cell w e 74 (j := 16) rfl
  have hb : Below w.heap.size w (w.alloc (.cells e.arr 74)) := (Below.refl _ w).alloc (Nat.le_refl _) _
  rcases hd : e.dn with _ | _
  all_goals (
    rw [hd] at c16
    have HE := hid (show holdsE e t = (!e.dn && decide (t < e.hi)) from rfl)
    rw [hd] at HE
    clear hd
    go_enter Tryz.func85, Tryz.ntmps85
    go_wp2
    go_ret
    exact ⟨ret_bool (by rw [HE.out]; simp), hb⟩)
end Go.Proofs.YtogoibigabpkhaaGreat
/- A slice of commands that the call itself made, one command longer. -/
namespace Go.Proofs.YtogoibigabpkhaaGreat
open Go.RowKit
open Go.Lib (hid)

theorem Own.more {w : World} {B : Nat} {v : Value} {cs : List C7} {c : C7} (h : w.ownsRow B 40 7 v (cs.length + 1) (flat cs ++ c.cells)) : Own w B v (cs ++ [c]) := by
  unfold Own; rw [flat_append, flat_single, List.length_append]; exact h
theorem Own.grows {w W0 w1 : World} {B : Nat} {v v' : Value} {cs : List C7} {c : C7} (hB : Below B w W0) (hsz : B ≤ W0.heap.size) (hlt : ∀ k, v.ownBlock = some k → B ≤ k)
    (hown' : w1.ownsRow B 40 7 v' (cs.length + 1) (flat cs ++ c.cells)) (hg : W0.grownBy w1 v.ownBlock) : Own w1 B v' (cs ++ [c]) ∧ Below B w w1 :=
  ⟨Own.more hown', hB.grown hg hsz hlt⟩

theorem new_cell {W : World} {c : C7} {g : Nat} (hg : g = W.heap.size) : ∀ (j : Nat) u, c.cells[j]? = some u → (W.alloc (.cells #[.int .i64 c.i, .int .i64 c.k, .int .i64 c.s, .int .i64 c.t, .int .i64 c.d, .int .i64 c.p, .int .i64 c.q] 40)).cell? ((⟨g, 0, none⟩ : Addr).add j) = some u := by
  intro j u hj
  subst hg
  rw [show (⟨W.heap.size, 0, none⟩ : Addr).add j = ⟨W.heap.size, j, none⟩ from by unfold Addr.add; split <;> simp_all, World.cell?_alloc_new, List.getElem?_toArray]
  exact hj
theorem cells_one (c : C7) : ∀ u ∈ c.cells, u.oneCell' = true := by
  intro u hu; simp at hu; rcases hu with rfl | rfl | rfl | rfl | rfl | rfl | rfl <;> rfl

end Go.Proofs.YtogoibigabpkhaaGreat
/- Commands one behind the other, as states: what the loops over them keep. -/

namespace Go.Proofs.YtogoibigabpkhaaGreat
set_option linter.unusedVariables false
open Go.RowKit
open Go.Lib (hid)

theorem cmdsS_err {s : St} (h : (numS s).2.2 ≠ 0) : cmdsS s = ([], (numS s).2) := by
  have h0 := numS_bad h
  unfold cmdsS
  dsimp only
  rw [h0, if_neg (by omega)]
  unfold cmdsGo
  rw [if_neg h]
theorem cmdsS_many {s : St} (h : 1024 < (numS s).1) : cmdsS s = ([], ([], 2)) := by
  unfold cmdsS
  dsimp only
  rw [if_pos h]
theorem cmdsS_fail {s st : St} {out : List C7} (h : (numS s).1 ≤ 1024) (hg : cmdsGo (numS s).1 [] (numS s).2 = (out, st)) (he : st.2 ≠ 0) : cmdsS s = ([], st) := by
  unfold cmdsS
  dsimp only
  rw [if_neg (by omega), hg]
  dsimp only
  rw [if_neg he]
theorem cmdsS_fin {s st : St} {out : List C7} (h : (numS s).1 ≤ 1024) (hg : cmdsGo (numS s).1 [] (numS s).2 = (out, st)) (he : st.2 = 0) : cmdsS s = (out, st) := by
  unfold cmdsS
  dsimp only
  rw [if_neg (by omega), hg]
  dsimp only
  rw [if_pos he]
theorem cmdsGo_stop {k : Nat} {out : List C7} {st : St} (h : st.2 ≠ 0) : cmdsGo k out st = (out, st) := by
  match k with
  | 0 => rfl
  | k + 1 => rw [cmdsGo, if_neg h]
theorem cmdsGo_next {m k : Nat} {out : List C7} {st : St} (h : k < m) (he : st.2 = 0) : cmdsGo (m - k) out st = cmdsGo (m - (k + 1)) (out ++ [(cmdS st).1]) (cmdS st).2 := by
  obtain ⟨j, hj⟩ : ∃ j, m - k = j + 1 := ⟨m - k - 1, by omega⟩
  rw [hj, cmdsGo, if_pos he, show m - (k + 1) = j by omega]

theorem Own.asSlice {w : World} {B : Nat} {v : Value} {cs : List C7} (h : Own w B v cs) : ∃ (g : Option Addr) (cap n : Nat), v = .slice g n cap ∧ n = cs.length := by
  rcases h.shape with ⟨e, e'⟩ | ⟨g, cap, e, _⟩
  · exact ⟨none, 0, 0, e, by rw [e']; rfl⟩
  · exact ⟨_, cap, _, e, rfl⟩
theorem Own.kept' {w w' : World} {B p : Nat} {v : Value} {cs : List C7} (h : Own w B v cs) (hg : w.grownBy w' (some p)) (hp : p < B) : Own w' B v cs :=
  World.ownsRow.kept h hg (.inr fun hh => by have := (h.lt _ hh).1; omega)
theorem own_more {w : World} {B : Nat} {v : Value} {cs : List C7} {c : C7} {n : Nat} (h : w.ownsRow B 40 7 v n (flat cs ++ c.cells)) (hn : n = cs.length + 1) : Own w B v (cs ++ [c]) := by
  subst hn; exact Own.more h
end Go.Proofs.YtogoibigabpkhaaGreat
/- A value behind its number and its commands, as states. -/
namespace Go.Proofs.YtogoibigabpkhaaGreat
set_option linter.unusedVariables false
open Go.RowKit
open Go.Lib (hid)

theorem valueS_err {s : St} (h : (cmdsS (numS s).2).2.2 ≠ 0) : valueS s = ((0, []), (cmdsS (numS s).2).2) := by unfold valueS; dsimp only; rw [if_neg h]
theorem valueS_yes {s : St} (h : (cmdsS (numS s).2).2.2 = 0) (h2 : setB (cmdsS (numS s).2).1 = true) : valueS s = (((numS s).1, (cmdsS (numS s).2).1), (cmdsS (numS s).2).2) := by unfold valueS; dsimp only; rw [if_pos h, if_pos h2]
theorem valueS_no {s : St} (h : (cmdsS (numS s).2).2.2 = 0) (h2 : setB (cmdsS (numS s).2).1 = false) : valueS s = ((0, []), ([], 2)) := by unfold valueS; dsimp only; rw [if_pos h, if_neg (by rw [h2]; simp)]
theorem cmdsS_short {s : St} : (cmdsS s).1.length ≤ 1024 := by
  by_cases h : (cmdsS s).2.2 = 0
  · exact (cmdsS_ok h).2.2.1
  · rw [cmdsS_bad h]; simp
abbrev zeroV : Obj := .cells #[.int .i64 0, .slice none 0 0] 42
theorem grownSet2q (w : World) (q : Nat) (x y : Value) : w.grownBy ((w.setCell ⟨q, 0, none⟩ x).setCell ⟨q, 1, none⟩ y) (some q) := grownSet2 w q x y
theorem heapB {w w' : World} {q B : Nat} {o : Obj} (h : w.heap[q]? = some o) (hB : Below B w w') (hq : q < B) : w'.heap[q]? = some o := by rw [hB.block q hq]; exact h
theorem own_sl_below {w w' : World} {B : Nat} {v : Value} {cs : List C7} (h : Own w B v cs) (hb : Below w.heap.size w w') : Own w' B v cs := own_below h hb fun k hk => (h.lt k hk).2
end Go.Proofs.YtogoibigabpkhaaGreat
