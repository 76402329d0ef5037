import Derived.Test.YtbcmhnaiabifjaaG02
import Derived.Laws.StructEq
import Derived.Deep.QuietTactic
import Derived.BigQuiet
import Derived.Deep.MidRow
import Derived.Laws.ResultCell
import Derived.Deep.CutRange
import Derived.Deep.Heap
import Derived.Deep.Upon
import Derived.BigRegion
import Derived.WalkMore
import Derived.Lib.SliceRun
import Derived.ScopeJumps
namespace Go.Proofs.Ytbcmhnaiabifjaa
open Go.RowKit
open Go.Lib (hid)
theorem equalC (a b : C7) (w : World) : Sem.run Try.prog (Op.equalIn 10000 47 a.v b.v) w = .ok (a.same b) w := by
  have u3 := Try.underlying3
  have a3 := Try.isAgg3
  have z3 := Try.sizeOf3
  have u31 := Try.underlying44
  have a31 := Try.isAgg44
  have z31 := Try.sizeOf44
  have u32 := Try.underlying45
  have a32 := Try.isAgg45
  have z32 := Try.sizeOf45
  have hS : Try.prog.underlying 47 = some (.struct (Try.prog.fieldsOf 47)) := by kernel_rfl
  have hp : Try.prog.stoodInHeld 47 = false := by kernel_rfl
  simp only [C7.v, cmV]
  rw [show (10000 : Nat) = 9999 + 1 from rfl, run_equalIn_agg w 9999 47 _ _ hS hp]
  simp only [Program.fieldsOf, Try.underlying47]
  go_simp
  unfold C7.same
  by_cases h1 : a.i = b.i
  · by_cases h2 : a.k = b.k
    · by_cases h3 : a.s = b.s
      · by_cases h4 : a.t = b.t
        · by_cases h5 : a.d = b.d
          · by_cases h6 : a.p = b.p
            · by_cases h7 : a.q = b.q
              · simp [h1, h2, h3, h4, h5, h6, h7]
              · simp [h1, h2, h3, h4, h5, h6, h7]
            · simp [h1, h2, h3, h4, h5, h6]
          · simp [h1, h2, h3, h4, h5]
        · simp [h1, h2, h3, h4]
      · simp [h1, h2, h3]
    · simp [h1, h2]
  · simp [h1]
theorem neqC {a b : C7} {r : Bool} (h : a.same b = r) (w : World) : Sem.run Try.prog (binOp .neq 47 a.v b.v) w = .ok (.bool (!r)) w := by
  rw [C7.v, C7.v, cmV, cmV, run_neq_struct]
  have := equalC a b w
  rw [C7.v, C7.v, cmV, cmV] at this
  rw [this, h]; rfl
theorem guardC (op : BinOp) (x y : Operand) (a b : C7) (w : World) : Sem.run Try.prog (eqGuard op 47 x y a.v b.v) w = .ok () w := run_eqGuard_agg w op 47 x y _ _ (by kernel_rfl)
theorem Sl.open {w : World} {v : Value} {cs : List C7} (h : Sl w v cs) : ∃ (b o cap : Nat) (a : Option Addr), v = .slice a cs.length cap ∧ (0 < cs.length → a = some ⟨b, o, none⟩) ∧ CmsAt w b o cs ∧ (0 < cs.length → b < w.heap.size) := by
  obtain ⟨b, o, cap, a, hv, _, ha, hc, hb⟩ := h
  exact ⟨b, o, cap, a, hv, ha, hc, hb⟩
end Go.Proofs.Ytbcmhnaiabifjaa
namespace Go.Proofs.Ytbcmhnaiabifjaa
set_option linter.unusedVariables false
open Go.RowKit
open Go.Lib (hid)
def sameB (a b : List C7) : Bool := decide (a = b)
theorem same_len {a b : List C7} (h : ¬ a.length = b.length) : sameB a b = false := decide_eq_false fun e => h (by rw [e])
theorem same_no {a b : List C7} {k : Nat} {x y : C7} (hx : a[k]? = some x) (hy : b[k]? = some y) (h : x.same y = false) : sameB a b = false := decide_eq_false fun e => by
  subst e; rw [hx] at hy; exact C7.same_no.1 h (Option.some.inj hy)
theorem same_yes {a b : List C7} {k : Nat} (hl : a.length = b.length) (hk : a.length ≤ k) (h : ∀ j, j < k → ∀ x, a[j]? = some x → ∀ y, b[j]? = some y → x.same y = true) : sameB a b = true := decide_eq_true (List.ext_getElem hl fun j h1 h2 => C7.same_iff.1 (h j (by omega) _ (List.getElem?_eq_getElem h1) _ (List.getElem?_eq_getElem h2)))
theorem same_next {a b : List C7} {k : Nat} {x y : C7} (h : ∀ j, j < k → ∀ x, a[j]? = some x → ∀ y, b[j]? = some y → x.same y = true) (hx : a[k]? = some x) (hy : b[k]? = some y) (hs : x.same y = true) : ∀ j, j < k + 1 → ∀ x, a[j]? = some x → ∀ y, b[j]? = some y → x.same y = true := fun j hj u hu v hv => by
  by_cases e : j = k
  · subst e; rw [hx] at hu; rw [hy] at hv; rw [← Option.some.inj hu, ← Option.some.inj hv]; exact hs
  · exact h j (by omega) u hu v hv
set_option maxHeartbeats 600000 in
set_option maxRecDepth 100000 in
theorem rSame {v v' : Value} {cs ds : List C7} {w : World} (h : Sl w v cs) (h' : Sl w v' ds) (hl : cs.length ≤ 100000) (hl' : ds.length ≤ 100000) : Calls Try.prog 33 #[v, v'] w fun e w' => e = .returned (.bool (sameB cs ds)) ∧ Below w.heap.size w w' := by
  obtain ⟨b, o, cap, a, rfl, ha, hc, hb⟩ := h.open
  obtain ⟨b', o', cap', a', rfl, ha', hc', hb'⟩ := h'.open
  clear h h'
  by_cases hlen : cs.length = ds.length
  · rw [hlen] at ha hb hl
    rw [hlen]
    have HL := hid hlen
    clear hlen
    go_enter Try.func33, Try.ntmps33
    go_wp2
    go_loopw [5] (fun i wr => ∃ k : Nat, k ≤ ds.length ∧ i = .int .i64 k ∧ Hid (∀ j, j < k → ∀ x, cs[j]? = some x → ∀ y, ds[j]? = some y → x.same y = true) ∧ Below w.heap.size w wr) (fun i _ => ds.length - (intOf i).toNat)
    case atStart => exact ⟨0, Nat.zero_le _, rfl, fun j hj => absurd hj (by omega), Below.refl _ _⟩
    case round =>
      obtain ⟨k, hk, rfl, hak, hB⟩ := hrel
      by_cases hlt : k < ds.length
      · obtain rfl := ha (by omega)
        obtain rfl := ha' (by omega)
        obtain ⟨x, hxx⟩ : ∃ x, cs[k]? = some x := ⟨cs[k]'(by rw [HL.out]; exact hlt), List.getElem?_eq_getElem (by rw [HL.out]; exact hlt)⟩
        obtain ⟨y, hyy⟩ : ∃ y, ds[k]? = some y := ⟨ds[k], List.getElem?_eq_getElem (by omega)⟩
        have hbw := hb (by omega)
        have hbw' := hb' (by omega)
        obtain ⟨c0, c1, c2, c3, c4, c5, c6⟩ := (hc.on hB hbw).at hxx
        obtain ⟨d0, d1, d2, d3, d4, d5, d6⟩ := (hc'.on hB hbw').at hyy
        have HX := hid (And.intro hxx hyy)
        have HB := hid hB
        clear hxx hyy hB
        rcases hs : x.same y with _ | _
        · have hE := neqC hs
          have hG := fun op p q W => guardC op p q x y W
          have HS := hid hs
          clear hs
          go_wp2
          go_quiet (fail)
          go_wp2
          go_ret
          exact ⟨ret_bool (same_no HX.out.1 HX.out.2 HS.out).symm, Below.drewN' HB.out _⟩
        · have hE := neqC hs
          have hG := fun op p q W => guardC op p q x y W
          have HS := hid hs
          clear hs
          go_wp2
          go_quiet (fail)
          go_wp2
          go_roundw
          case rel => exact ⟨k + 1, by omega, by go_num, same_next hak.out HX.out.1 HX.out.2 HS.out, Below.drewN' HB.out _⟩
          case measure => simp [intOf]; omega
      · have HS : Hid (sameB cs ds = true) := same_yes HL.out (by rw [HL.out]; omega) hak.out
        go_wp2
        go_ret
        exact ⟨ret_bool HS.out.symm, hB⟩
  · have HS : Hid (sameB cs ds = false) := same_len hlen
    go_enter Try.func33, Try.ntmps33
    go_wp2
    go_ret
    exact ⟨ret_bool HS.out.symm, Below.refl _ _⟩
end Go.Proofs.Ytbcmhnaiabifjaa
namespace Go.Proofs.Ytbcmhnaiabifjaa
set_option linter.unusedVariables false
open Go.RowKit
open Go.Lib (hid)
set_option maxHeartbeats 1600000 in
set_option maxRecDepth 100000 in
theorem rSameValue {v v' : Value} {cs : List C7} {w : World} (t : Int) (h : Sl w v cs) (h' : Sl w v' cs) (hl : cs.length ≤ 100000) : Calls Try.prog 12 #[.agg #[.int .i64 t, v], .agg #[.int .i64 t, v']] w fun e w' => e = .returned (.bool true) ∧ Below w.heap.size w w' := by
  have H := hid h
  have H' := hid h'
  obtain ⟨_, _, cap, a, rfl, _⟩ := h
  obtain ⟨_, _, cap', a', rfl, _⟩ := h'
  have hS := rSame (H.out.on (((Below.refl _ w).alloc (Nat.le_refl _) (.cells #[.int .i64 t, .slice a cs.length cap] 28)).alloc (by simp) (.cells #[.int .i64 t, .slice a' cs.length cap'] 28))) (H'.out.on (((Below.refl _ w).alloc (Nat.le_refl _) (.cells #[.int .i64 t, .slice a cs.length cap] 28)).alloc (by simp) (.cells #[.int .i64 t, .slice a' cs.length cap'] 28))) hl hl
  rw [show sameB cs cs = true from decide_eq_true rfl] at hS
  go_enter Try.func12, Try.ntmps12
  go_wp2_with (go_at_call 33; (
    refine hS.mono ?_
    rintro e w1 ⟨rfl, hB⟩
    have hs1 := hB.size
    have k0 : w1.cell? ⟨w.heap.size, 0, none⟩ = some (.int .i64 t) := (hB.cell (p := ⟨w.heap.size, 0, none⟩) (by simp; omega)).trans (by simp [go_sem])
    have k1 : w1.cell? ⟨w.heap.size + 1, 0, none⟩ = some (.int .i64 t) := (hB.cell (p := ⟨w.heap.size + 1, 0, none⟩) (by simp)).trans (by simp [go_sem])
    have HB := hid hB
    clear hB))
  go_ret
  exact ⟨rfl, (((Below.refl _ w).alloc (Nat.le_refl _) _).alloc (by simp) _).trans (HB.out.mono (by simp; omega))⟩
end Go.Proofs.Ytbcmhnaiabifjaa
namespace Go.Proofs.Ytbcmhnaiabifjaa
set_option linter.unusedVariables false
open Go.RowKit
open Go.Lib (hid)
def validB (t : Int) : Bool := decide (16 ≤ t ∧ t < 1048576 ∧ t % 16 ≤ 8)
theorem rValid (t : Int) (w : World) : Calls Try.prog 31 #[.int .i64 t] w fun e w' => e = .returned (.bool (validB t)) ∧ w = w' := by
  by_cases h0 : 16 ≤ t
  · by_cases h1 : t < 1048576
    · by_cases h2 : t % 16 ≤ 8
      · go_enter Try.func31, Try.ntmps31
        go_wp2
        go_ret
        exact ⟨ret_bool (by unfold validB; symm; simp; omega), rfl⟩
      · go_enter Try.func31, Try.ntmps31
        go_wp2
        go_ret
        exact ⟨ret_bool (by unfold validB; symm; simp; omega), rfl⟩
    · go_enter Try.func31, Try.ntmps31
      go_wp2
      go_ret
      exact ⟨ret_bool (by unfold validB; symm; simp; omega), rfl⟩
  · go_enter Try.func31, Try.ntmps31
    go_wp2
    go_ret
    exact ⟨ret_bool (by unfold validB; symm; simp; omega), rfl⟩
def fullB (t : Int) (l : List C7) : Bool := validB t && setB l
def noneB (t : Int) (l : List C7) : Bool := decide (t = 0) && decide (l.length = 0)
abbrev boxV (t : Int) (v : Value) : Obj := .cells #[.int .i64 t, v] 28
set_option maxHeartbeats 600000 in
set_option maxRecDepth 100000 in
theorem rFull {v : Value} {l : List C7} {w : World} (t : Int) (h : Sl w v l) (hl : l.length ≤ 1024) : Calls Try.prog 13 #[.agg #[.int .i64 t, v]] w fun e w' => e = .returned (.bool (fullB t l)) ∧ Below w.heap.size w w' := by
  obtain ⟨_, _, cap, a, hv, _⟩ := id h
  subst hv
  have hS := rSetRight (h.on ((Below.refl _ w).alloc (Nat.le_refl _) (boxV t (.slice a l.length cap)))) hl
  have hV := fun W => rValid t W
  rcases hv : validB t with _ | _
  · rw [hv] at hV
    have HE := hid (show fullB t l = false by unfold fullB; rw [hv]; rfl)
    clear hv
    go_enter Try.func13, Try.ntmps13
    go_wp2_with (first | (go_at_call 31; refine (hV _).mono ?_; rintro e w' ⟨rfl, rfl⟩) | (go_at_call 34; refine hS.mono ?_; rintro e w1 ⟨rfl, hB⟩; have HB := hid hB; clear hB))
    go_ret
    exact ⟨ret_bool HE.out.symm, ((Below.refl _ w).alloc (Nat.le_refl _) _).trans (HB.out.mono (by simp))⟩
  · rw [hv] at hV
    have HE := hid (show fullB t l = setB l by unfold fullB; rw [hv]; rfl)
    clear hv
    go_enter Try.func13, Try.ntmps13
    go_wp2_with (first | (go_at_call 31; refine (hV _).mono ?_; rintro e w' ⟨rfl, rfl⟩) | (go_at_call 34; refine hS.mono ?_; rintro e w1 ⟨rfl, hB⟩; have HB := hid hB; clear hB))
    go_ret
    exact ⟨ret_bool HE.out.symm, ((Below.refl _ w).alloc (Nat.le_refl _) _).trans (HB.out.mono (by simp))⟩
set_option maxHeartbeats 1600000 in
set_option maxRecDepth 100000 in
theorem rSameVG {v v' : Value} {cs ds : List C7} {w : World} (t t' : Int) (h : Sl w v cs) (h' : Sl w v' ds) (hl : cs.length ≤ 100000) (hl' : ds.length ≤ 100000) : Calls Try.prog 12 #[.agg #[.int .i64 t, v], .agg #[.int .i64 t', v']] w fun e w' => e = .returned (.bool (decide (t = t') && sameB cs ds)) ∧ Below w.heap.size w w' := by
  have H := hid h
  have H' := hid h'
  obtain ⟨_, _, cap, a, rfl, _⟩ := h
  obtain ⟨_, _, cap', a', rfl, _⟩ := h'
  have hS := rSame (H.out.on (((Below.refl _ w).alloc (Nat.le_refl _) (boxV t (.slice a cs.length cap))).alloc (by simp) (boxV t' (.slice a' ds.length cap')))) (H'.out.on (((Below.refl _ w).alloc (Nat.le_refl _) (boxV t (.slice a cs.length cap))).alloc (by simp) (boxV t' (.slice a' ds.length cap')))) hl hl'
  have hT : (t = t' ∧ t' = t) ∨ ¬ t = t' := by omega
  rcases hT with ⟨ht, _⟩ | ht
  · subst ht
    go_enter Try.func12, Try.ntmps12
    go_wp2_with (go_at_call 33; (
      refine hS.mono ?_
      rintro e w1 ⟨rfl, hB⟩
      have hs1 := hB.size
      have k0 : w1.cell? ⟨w.heap.size, 0, none⟩ = some (.int .i64 t) := (hB.cell (p := ⟨w.heap.size, 0, none⟩) (by simp; omega)).trans (by simp [go_sem])
      have k1 : w1.cell? ⟨w.heap.size + 1, 0, none⟩ = some (.int .i64 t) := (hB.cell (p := ⟨w.heap.size + 1, 0, none⟩) (by simp)).trans (by simp [go_sem])
      have HB := hid hB
      clear hB))
    go_ret
    exact ⟨ret_bool (by simp), (((Below.refl _ w).alloc (Nat.le_refl _) _).alloc (by simp) _).trans (HB.out.mono (by simp; omega))⟩
  all_goals (
    go_enter Try.func12, Try.ntmps12
    go_wp2_with (go_at_call 33; (
      refine hS.mono ?_
      rintro e w1 ⟨rfl, hB⟩
      have hs1 := hB.size
      have k0 : w1.cell? ⟨w.heap.size, 0, none⟩ = some (.int .i64 t) := (hB.cell (p := ⟨w.heap.size, 0, none⟩) (by simp; omega)).trans (by simp [go_sem])
      have k1 : w1.cell? ⟨w.heap.size + 1, 0, none⟩ = some (.int .i64 t') := (hB.cell (p := ⟨w.heap.size + 1, 0, none⟩) (by simp)).trans (by simp [go_sem])
      have HB := hid hB
      clear hB))
    go_ret
    exact ⟨ret_bool (by simp [ht]), (((Below.refl _ w).alloc (Nat.le_refl _) _).alloc (by simp) _).trans (HB.out.mono (by simp; omega))⟩)
end Go.Proofs.Ytbcmhnaiabifjaa
namespace Go.Proofs.Ytbcmhnaiabifjaa
set_option linter.unusedVariables false
open Go.RowKit
open Go.Lib (hid)
structure Sv where
  a : Option Addr
  n : Nat
  c : Nat
structure Ev where
  c : C7
  pr : Int
  lo : Int
  hi : Int
  ft : Int
  fp : Sv
  ab : Int
  xt : Int
  xp : Sv
  fr : Bool
  dn : Bool
  vt : Int
  vp : Sv
abbrev Sv.v (s : Sv) : Value := .slice s.a s.n s.c
def Ev.list (e : Ev) : List Value := [.int .i64 e.c.i, .int .i64 e.c.k, .int .i64 e.c.s, .int .i64 e.c.t, .int .i64 e.c.d, .int .i64 e.c.p, .int .i64 e.c.q, .int .i64 e.pr, .int .i64 e.lo, .int .i64 e.hi, .int .i64 e.ft, e.fp.v, .int .i64 e.ab, .int .i64 e.xt, e.xp.v, .bool e.fr, .bool e.dn, .int .i64 e.vt, e.vp.v]
def Ev.arr (e : Ev) : Array Value := e.list.toArray
theorem Ev.len (e : Ev) : e.list.length = 19 := rfl
theorem Ev.size (e : Ev) : e.arr.size = 19 := rfl
theorem Ev.toList (e : Ev) : e.arr.toList = e.list := by unfold Ev.arr; simp
theorem Ev.one (e : Ev) : e.arr.all (·.oneCell') = true := all_oneCell_toArray fun v hv => by
  unfold Ev.list at hv; simp at hv
  rcases hv with h | h | h | h | h | h | h | h | h | h | h | h | h | h | h | h | h | h | h <;> subst h <;> rfl
theorem below_cells {B : Nat} {a : World} {b : Nat} (hb : B ≤ b) : ∀ (vs : List Value) (o : Nat) (w : World), Below B a w → Below B a (w.setCells b o vs)
  | [], o, w, h => h
  | v :: vs, o, w, h => by
    show Below B a ((w.setCell ⟨b, o, none⟩ v).setCells b (o + 1) vs)
    exact below_cells hb vs (o + 1) _ (h.setCell hb v)
theorem ret_cell_tmp {P : Program} {fn : Func} {a : Act} {w : World} {p u : Tmp} {ty : TypeId} {b o : Nat} {cs : List Value} {d : TypeDesc} {v : Value} (h : fn.results = #[.cell p ty, .tmp u]) (hp : a.tmps.getD p undef = .pointer (some ⟨b, o, none⟩)) (hu : a.tmps.getD u undef = v)
    (hc : w.rangeAt b o cs) (ht : P.underlying ty = some d) (hd : d.isRow = true) (hi : (P.info? ty).map (·.size) = some cs.length) : (results fn a.tmps).run P w = .ok (.tuple #[.agg cs.toArray, v]) w := by
  rw [results_cell_tmp h, hp, hu]
  simp [asAddr, run_loadVar_mid w b o ty cs d hc ht hd hi, Result.andThen]
end Go.Proofs.Ytbcmhnaiabifjaa
namespace Go.Proofs.Ytbcmhnaiabifjaa
set_option linter.unusedVariables false
open Go.RowKit
open Go.Lib (hid)
end Go.Proofs.Ytbcmhnaiabifjaa
namespace Go.Proofs.Ytbcmhnaiabifjaa
set_option linter.unusedVariables false
open Go.RowKit
open Go.Lib (hid)
theorem heapB {w w' : World} {q B : Nat} {o : Obj} (h : w.heap[q]? = some o) (hB : Below B w w') (hq : q < B) : w'.heap[q]? = some o := by rw [hB.block q hq]; exact h
end Go.Proofs.Ytbcmhnaiabifjaa
namespace Go.Proofs.Ytbcmhnaiabifjaa
set_option linter.unusedVariables false
open Go.RowKit
open Go.Lib (hid)
theorem ret_cell1 {P : Program} {fn : Func} {a : Act} {w : World} {p : Tmp} {ty : TypeId} {b o : Nat} {cs : List Value} {d : TypeDesc} (h : fn.results = #[.cell p ty]) (hp : a.tmps.getD p undef = .pointer (some ⟨b, o, none⟩))
    (hc : w.rangeAt b o cs) (ht : P.underlying ty = some d) (hd : d.isRow = true) (hi : (P.info? ty).map (·.size) = some cs.length) : (results fn a.tmps).run P w = .ok (.agg cs.toArray) w := by
  simp only [results, h]
  have h1 := run_loadVar_mid w b o ty cs d hc ht hd hi
  simp only [Array.getD_eq_getD_getElem?] at hp
  simp [hp, asAddr, h1]
end Go.Proofs.Ytbcmhnaiabifjaa
namespace Go.Proofs.Ytbcmhnaiabifjaa
set_option linter.unusedVariables false
open Go.RowKit
open Go.Lib (hid)
end Go.Proofs.Ytbcmhnaiabifjaa
namespace Go.Proofs.Ytbcmhnaiabifjaa
set_option linter.unusedVariables false
open Go.RowKit
open Go.Lib (hid)
theorem rangeOf {W : World} {q : Nat} {e : Ev} {T : TypeId} (h : W.heap[q]? = some (.cells e.arr T (0, 0))) : W.rangeAt q 0 e.list := fun j v hv => by
  rw [Nat.zero_add, cellAt' h, ← Ev.toList] at *
  simpa using hv
theorem thereOf {W : World} {q n : Nat} {C : Array Value} {T : TypeId} (h : W.heap[q]? = some (.cells C T (0, 0))) (hn : n ≤ C.size) : W.there q 0 n := fun j hj => by
  rw [Nat.zero_add]
  refine ⟨?_, frozenAt h j⟩
  rw [cellAt' h, Array.getElem?_eq_getElem (by omega)]; rfl
end Go.Proofs.Ytbcmhnaiabifjaa
namespace Go.Proofs.Ytbcmhnaiabifjaa
set_option linter.unusedVariables false
open Go.RowKit
open Go.Lib (hid)
open Go.Deep (blk_setCell_other nblk_setCell)
abbrev Ob (w : World) (q : Nat) (T : TypeId) (e : Ev) : Prop := w.heap[q]? = some (.cells e.arr T (0, 0))
theorem setsAll {q : Nat} {t : TypeId} : ∀ (vs : List Value) (o : Nat) (C : Array Value) (w : World), w.heap[q]? = some (.cells C t (0, 0)) →
    ∃ C', (w.setCells q o vs).heap[q]? = some (.cells C' t (0, 0)) ∧ C'.size = C.size ∧ (∀ j, j < o → C'[j]? = C[j]?) ∧ ∀ j, j < vs.length → o + j < C.size → C'[o + j]? = vs[j]?
  | [], o, C, w, h => ⟨C, h, rfl, fun _ _ => rfl, fun j hj => absurd hj (by simp)⟩
  | v :: vs, o, C, w, h => by
    obtain ⟨C', h1, h2, h3, h4⟩ := setsAll vs (o + 1) _ (w.setCell ⟨q, o, none⟩ v) (setAt h)
    refine ⟨C', h1, h2.trans (by simp), fun j hj => ?_, fun j hj hs => ?_⟩
    · rw [h3 j (by omega), Array.getElem?_setIfInBounds]; simp; omega
    · cases j with
      | zero =>
        rw [Nat.add_zero, h3 o (by omega), Array.getElem?_setIfInBounds]
        simp; omega
      | succ j =>
        have := h4 j (by simp at hj; omega) (by simp; omega)
        rw [show o + (j + 1) = o + 1 + j by omega, this]; rfl
structure Upd (q : Nat) (w W : World) : Prop where
  size : W.heap.size = w.heap.size
  other : ∀ k, k < w.heap.size → k ≠ q → W.heap[k]? = w.heap[k]?
  below : ∀ B, B ≤ q → Below B w W
theorem setsUpd (w : World) (q : Nat) (vs : List Value) : Upd q w (w.setCells q 0 vs) := by
  refine ⟨?_, fun k hk hne => World.heap_setCells_other w q 0 vs hk hne, fun B hB => below_cells hB _ _ _ (Below.refl _ _)⟩
  have : ∀ (vs : List Value) (o : Nat) (w : World), (w.setCells q o vs).heap.size = w.heap.size := by
    intro vs
    induction vs with
    | nil => intro o w; rfl
    | cons v vs ih => intro o w; exact (ih (o + 1) _).trans (nblk_setCell w _ v)
  exact this vs 0 w
theorem Upd.ob {q k : Nat} {w W : World} (h : Upd q w W) {o : Obj} (hk : w.heap[k]? = some o) (hne : k ≠ q) : W.heap[k]? = some o := (h.other k (Array.getElem?_eq_some_iff.1 hk).1 hne).trans hk
theorem Ob.range {w : World} {q : Nat} {T : TypeId} {e : Ev} (h : Ob w q T e) : w.rangeAt q 0 e.list := rangeOf h
theorem Ob.cell {w : World} {q : Nat} {T : TypeId} {e : Ev} (h : Ob w q T e) {j : Nat} {v : Value} (hv : e.list[j]? = some v) : w.cell? ⟨q, j, none⟩ = some v := by
  have := h.range j v hv; rwa [Nat.zero_add] at this
theorem Ob.free {w : World} {q : Nat} {T : TypeId} {e : Ev} (h : Ob w q T e) (j : Nat) : w.frozen? ⟨q, j, none⟩ = false := frozenAt h j
theorem Ob.set {w : World} {q j : Nat} {T : TypeId} {e e' : Ev} {v : Value} (h : Ob w q T e) (he : e.arr.setIfInBounds j v = e'.arr) : Ob (w.setCell ⟨q, j, none⟩ v) q T e' := by
  have := setAt (j := j) (x := v) h
  rwa [he] at this
def Room (w : World) (q : Nat) (T : TypeId) : Prop := ∃ C : Array Value, w.heap[q]? = some (.cells C T (0, 0)) ∧ C.size = 19
theorem Ob.room {w : World} {q : Nat} {T : TypeId} {e : Ev} (h : Ob w q T e) : Room w q T := ⟨_, h, e.size⟩
theorem opaqueW {P : Program} {ops : Array Oper} {l : List Oper} {a : Act} {Q : Exit → Act → World → Prop} (w : World) (h : ∀ W, W = w → wpList P ops Q l a W) : wpList P ops Q l a w := h w rfl
theorem belowDrew {B : Nat} {w W : World} (h : Below B w W) : Below B w W.drew := ⟨h.1, h.2, h.3, h.4, h.5⟩
theorem laid1_0 (w : World) (o0 : Obj) : (w.alloc o0).heap[w.heap.size]? = some o0 := by
  have h0 : (w.alloc o0).heap[w.heap.size]? = some o0 := (heap_alloc_new w o0)
  exact h0
theorem laid1_b (w : World) (o0 : Obj) : Below w.heap.size w (w.alloc o0) := ((Below.refl w.heap.size w).alloc (Nat.le_refl _) o0)
theorem laid2_0 (w : World) (o0 o1 : Obj) : ((w.alloc o0).alloc o1).heap[w.heap.size]? = some o0 := by
  have h0 : (w.alloc o0).heap[w.heap.size]? = some o0 := (heap_alloc_new w o0)
  have ho1 : ((w.alloc o0).alloc o1).heap[w.heap.size]? = some o0 := (Below.heap_alloc _ _ _ (by simp; try omega)).trans h0
  exact ho1
theorem laid2_1 (w : World) (o0 o1 : Obj) : ((w.alloc o0).alloc o1).heap[w.heap.size + 1]? = some o1 := by
  have h1 : ((w.alloc o0).alloc o1).heap[w.heap.size + 1]? = some o1 := (by have := heap_alloc_new (w.alloc o0) o1; simpa [Nat.add_assoc] using this)
  exact h1
theorem laid2_b (w : World) (o0 o1 : Obj) : Below w.heap.size w ((w.alloc o0).alloc o1) := (((Below.refl w.heap.size w).alloc (Nat.le_refl _) o0).alloc (by simp; try omega) o1)
end Go.Proofs.Ytbcmhnaiabifjaa
namespace Go.Proofs.Ytbcmhnaiabifjaa
set_option linter.unusedVariables false
open Go.RowKit
open Go.Lib (hid)
theorem SlB.src {w : World} {v : Value} {l : List UInt8} (h : SlB w v l) :
    (v = .slice none 0 0 ∧ l = []) ∨ ∃ ad cap, v = .slice (Option.some ad) l.length cap ∧ (∀ (j : Nat) u, (octs l)[j]? = Option.some u → w.cell? (ad.add j) = Option.some u) ∧ (0 < l.length → ad.block < w.heap.size) := by
  obtain ⟨b, o, cap, a, rfl, hn, hcap, ha, hc, hl⟩ := h
  rcases a with _ | ad
  · have h0 : l.length = 0 := by have := hn rfl; omega
    exact .inl ⟨by rw [hn rfl, h0], List.length_eq_zero_iff.1 h0⟩
  · refine .inr ⟨ad, cap, rfl, fun j u hu => ?_, fun h0 => by obtain rfl := Option.some.inj (ha h0); exact hl h0⟩
    simp only [octs, List.getElem?_map, Option.map_eq_some_iff] at hu
    obtain ⟨x, hx, rfl⟩ := hu
    have h0 : 0 < l.length := by have := (List.getElem?_eq_some_iff.1 hx).1; omega
    obtain rfl := Option.some.inj (ha h0)
    rw [show (⟨b, o, none⟩ : Addr).add j = ⟨b, o + j, none⟩ from by unfold Addr.add; split <;> simp_all]
    exact hc j x hx
theorem OwnB.made (w : World) : OwnB (w.alloc (.cells #[] 5)) w.heap.size (.slice (Option.some ⟨w.heap.size, 0, none⟩) 0 0) [] :=
  World.ownsRow_made w #[] 0 (Nat.le_refl _) (by unfold maxLen; omega) rfl
end Go.Proofs.Ytbcmhnaiabifjaa
