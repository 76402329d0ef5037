import Derived.Test.YtogoibigabpkhaaGreatG10
import Derived.Maps.Own
import Derived.Maps.Views
import Derived.Maps.OwnSet
import Derived.Maps.RangeWalk
import Derived.StillTailTactics
import Derived.LoopTactic
import Derived.Deep.QuietTactic
import Derived.BigQuiet
import Derived.Outline



/- The journal's map: of each name the last entry that was kept; the program's keep. -/
namespace Go.Proofs.YtogoibigabpkhaaGreat
set_option linter.unusedVariables false
open Go.RowKit
open Go.Lib (hid)

/-- Nothing that was there has turned, but the blocks of a set. -/
structure Tch (S : Nat → Prop) (w w' : World) : Prop where
  os : w'.os = w.os
  tape : w'.tape = w.tape
  output : w'.output = w.output
  size : w.heap.size ≤ w'.heap.size
  block : ∀ k, k < w.heap.size → ¬ S k → w'.heap[k]? = w.heap[k]?
theorem Tch.refl (S : Nat → Prop) (w : World) : Tch S w w := ⟨rfl, rfl, rfl, Nat.le_refl _, fun _ _ _ => rfl⟩
theorem Tch.trans {S : Nat → Prop} {a b c : World} (h : Tch S a b) (k : Tch S b c) : Tch S a c :=
  ⟨k.os.trans h.os, k.tape.trans h.tape, k.output.trans h.output, Nat.le_trans h.size k.size, fun i hi hn => (k.block i (Nat.lt_of_lt_of_le hi h.size) hn).trans (h.block i hi hn)⟩
theorem Tch.mono {S S' : Nat → Prop} {a b : World} (h : Tch S a b) (hS : ∀ k, S k → S' k) : Tch S' a b := ⟨h.os, h.tape, h.output, h.size, fun i hi hn => h.block i hi fun hs => hn (hS i hs)⟩
theorem Tch.ofBelow {S : Nat → Prop} {w w' : World} (h : Below w.heap.size w w') : Tch S w w' := ⟨h.1, h.2, h.3, h.4, fun k hk _ => h.5 k hk⟩
theorem Tch.ofGrown {S : Nat → Prop} {w w' : World} {row : Option Nat} (h : w.grownBy w' row) (hr : ∀ k, row = some k → S k) : Tch S w w' :=
  ⟨h.os, h.tape, h.output, h.size, fun k hk hn => h.block k hk fun e => hn (hr k e.symm)⟩
theorem Tch.below {S : Nat → Prop} {B : Nat} {w w' : World} (h : Tch S w w') (hS : ∀ k, S k → B ≤ k) (hB : B ≤ w.heap.size) : Below B w w' :=
  ⟨h.os, h.tape, h.output, h.size, fun k hk => h.block k (by omega) fun hs => by have := hS k hs; omega⟩
theorem Tch.ob {S : Nat → Prop} {w w' : World} (h : Tch S w w') {k : Nat} {o : Obj} (hk : w.heap[k]? = some o) (hS : ¬ S k) : w'.heap[k]? = some o := (h.block k (Array.getElem?_eq_some_iff.1 hk).1 hS).trans hk
theorem cell_of_heap {w w' : World} {k i : Nat} (h : w'.heap[k]? = w.heap[k]?) : w'.cell? ⟨k, i, none⟩ = w.cell? ⟨k, i, none⟩ := World.cell?_of_block (a := ⟨k, i, none⟩) h
/-- Commands stand, if what has turned has no seven cells. -/
theorem Sl.tch {S : Nat → Prop} {w w' : World} {v : Value} {cs : List C7} (h : Sl w v cs) (ht : Tch S w w') (hS : ∀ k, S k → ∀ i, 6 ≤ i → w.cell? ⟨k, i, none⟩ = none) : Sl w' v cs := by
  obtain ⟨b, o, cap, a, rfl, hn, ha, hc, hl⟩ := h
  refine ⟨b, o, cap, a, rfl, hn, ha, fun j c hj f u hu => ?_, fun h0 => Nat.lt_of_lt_of_le (hl h0) ht.size⟩
  have h0 : 0 < cs.length := by have := (List.getElem?_eq_some_iff.1 hj).1; omega
  have hb : ¬ S b := fun hs => by
    have h6 := hc j c hj 6 _ rfl
    rw [hS b hs _ (by omega)] at h6
    cases h6
  rw [cell_of_heap (ht.block b (hl h0) hb)]
  exact hc j c hj f u hu
theorem En.at.tch {S : Nat → Prop} {w w' : World} {x : En} (h : x.at w) (ht : Tch S w w') (hS : ∀ k, S k → ∀ i, 6 ≤ i → w.cell? ⟨k, i, none⟩ = none) : x.at w' := ⟨h.1.tch ht hS, h.2.1.tch ht hS, h.2.2.tch ht hS⟩
theorem AllAt.tch {S : Nat → Prop} {w w' : World} {xs : List En} (h : AllAt w xs) (ht : Tch S w w') (hS : ∀ k, S k → ∀ i, 6 ≤ i → w.cell? ⟨k, i, none⟩ = none) : AllAt w' xs := fun x hx => (h x hx).tch ht hS

open Classical in
/-- How an entry in the map reads: as itself. -/
noncomputable def RE (v : Value) : Option (DataW Value × List MemPlace) := if ∃ e : Ev, v = .agg e.arr then some (.held v, []) else none
theorem RE_mk (e : Ev) : RE (.agg e.arr) = some (.held (.agg e.arr), []) := by unfold RE; rw [if_pos ⟨e, rfl⟩]
theorem RE_inv {v : Value} {y : DataW Value × List MemPlace} (h : RE v = some y) : ∃ e : Ev, v = .agg e.arr ∧ y = (.held (.agg e.arr), []) := by
  unfold RE at h
  split at h
  · rename_i hx; obtain ⟨e, rfl⟩ := hx; cases h; exact ⟨e, rfl, rfl⟩
  · cases h
theorem ev_inj {e e' : Ev} (h : e.arr = e'.arr) : e = e' := by
  have hl : e.list = e'.list := by rw [← Ev.toList e, h, Ev.toList]
  obtain ⟨c, pr, lo, hi, ft, fp, ab, xt, xp, fr, dn, vt, vp⟩ := e
  obtain ⟨c', pr', lo', hi', ft', fp', ab', xt', xp', fr', dn', vt', vp'⟩ := e'
  obtain ⟨a1, a2, a3, a4, a5, a6, a7⟩ := c
  obtain ⟨b1, b2, b3, b4, b5, b6, b7⟩ := c'
  obtain ⟨p1, p2, p3⟩ := fp
  obtain ⟨q1, q2, q3⟩ := fp'
  obtain ⟨r1, r2, r3⟩ := xp
  obtain ⟨s1, s2, s3⟩ := xp'
  obtain ⟨t1, t2, t3⟩ := vp
  obtain ⟨u1, u2, u3⟩ := vp'
  simp [Ev.list] at hl
  simp_all
abbrev key (i : Int) : Lit := .int .i64 i
theorem key_ne {i j : Int} (h : i ≠ j) : key i ≠ key j := fun e => h (by cases e; rfl)
/-- What the map's reading says of each name. -/
def Says (D : DataW Value) (xs : List En) : Prop := ∀ i, (∀ x, lookG En.id xs i = some x → Maps.has D (key i) = true ∧ ∀ z, D.atKey (key i) z = .held (.agg x.e.arr)) ∧ (lookG En.id xs i = none → Maps.has D (key i) = false)
def Mp (w : World) (b n : Nat) (xs : List En) : Prop := ∃ D : DataW Value, w.ownsMap Tryz.prog 3 RE b n D ∧ Says D xs
theorem own_isMap {w : World} {P : Program} {k : TypeId} {R : Value → Option (DataW Value × List MemPlace)} {b n : Nat} {D : DataW Value} (h : w.ownsMap P k R b n D) : Maps.IsMap D := by
  obtain ⟨es, clock, _, _, _, rfl⟩ := h; exact ⟨_, rfl⟩
theorem Mp.made (w : World) : Mp (w.alloc (.map #[] 0)) w.heap.size 0 [] := ⟨_, World.ownsMap_made w _ _ _, fun i => ⟨fun x h => by simp [lookG] at h, fun _ => rfl⟩⟩
theorem Says.put {D : DataW Value} {xs : List En} (h : Says D xs) (hD : Maps.IsMap D) (x : En) : Says (D.put (key x.id) (.held (.agg x.e.arr))) (xs ++ [x]) := fun i => by
  by_cases hi : x.id = i
  · subst hi
    refine ⟨fun y hy => ?_, fun hy => ?_⟩
    · rw [look_snoc, if_pos rfl] at hy; cases hy
      have hk : WideAt.IsKeyLit (key x.id) := trivial
      exact ⟨Maps.has_put_same hD hk _, fun z => Maps.atKey_put_same hD hk _ z⟩
    · rw [look_snoc, if_pos rfl] at hy; cases hy
  · have hne := key_ne (Ne.symm hi)
    refine ⟨fun y hy => ?_, fun hy => ?_⟩
    · rw [look_snoc, if_neg hi] at hy
      obtain ⟨h1, h2⟩ := (h i).1 y hy
      exact ⟨(Maps.has_put_other hne _).trans h1, fun z => (Maps.atKey_put_other hne _ z).trans (h2 z)⟩
    · rw [look_snoc, if_neg hi] at hy
      exact (Maps.has_put_other hne _).trans ((h i).2 hy)
theorem Mp.lt {w : World} {b n : Nat} {xs : List En} (h : Mp w b n xs) : b < w.heap.size := by obtain ⟨D, h, _⟩ := h; exact h.lt
theorem Mp.keptT {S : Nat → Prop} {w w' : World} {b n : Nat} {xs : List En} (h : Mp w b n xs) (ht : Tch S w w') (hS : ¬ S b) : Mp w' b n xs := by
  obtain ⟨D, ⟨es, clock, hb, hrest⟩, hs⟩ := h
  exact ⟨D, ⟨es, clock, ht.ob hb hS, hrest⟩, hs⟩
theorem Mp.on {w w' : World} {b n : Nat} {xs : List En} (h : Mp w b n xs) (hb : Below w.heap.size w w') : Mp w' b n xs := h.keptT (Tch.ofBelow (S := fun _ => False) hb) (fun h => h)
theorem Mp.nocell {w : World} {b n : Nat} {xs : List En} (h : Mp w b n xs) (i : Nat) : w.cell? ⟨b, i, none⟩ = none := by
  obtain ⟨D, ⟨es, clock, hb, _⟩, _⟩ := h
  simp [World.cell?, hb]
theorem stillC {ops : Array Oper} {rest : List Oper} {o : Oper} {a : Act} {w : World} {Q : Act → Prop} {x : Operand} {q : Nat} {T : TypeId} (e : Ev) (hg : Region.wanted o (yielded ops a.tmps) = true) (ho : o.op = .load 44 x) (hx : a.eval x = .pointer (some ⟨q, 0, none⟩)) (hC : Ob w q T e)
    (h : wpStill Tryz.prog ops w Q rest (a.put o.dst (.agg e.arr))) : wpStill Tryz.prog ops w Q (o :: rest) a := by
  refine wpStill_step fun K hK => ?_
  rw [if_pos hg]
  unfold Oper.still execOp
  simp only [ho, hx, Instr.loadAt, Instr.sureAddr, Sem.run_bind, Sem.run_pure, Result.andThen_ok, run_loadVar_mid w q 0 44 e.list _ hC.range Tryz.underlying44 rfl (infoEc e)]
  exact ⟨rfl, hK _ h⟩
theorem i64_wf {x : Int} (h : -9223372036854775808 ≤ x ∧ x ≤ 9223372036854775807) : (Lit.int .i64 x).wf = true := by
  have e1 : IntKind.i64.min = -9223372036854775808 := by decide
  have e2 : IntKind.i64.max = 9223372036854775807 := by decide
  simp [Lit.wf, e1, e2]; exact h

end Go.Proofs.YtogoibigabpkhaaGreat

/- A slice of one entry written out; a record of an entry. -/
namespace Go.Proofs.YtogoibigabpkhaaGreat
set_option linter.unusedVariables false
open Go.RowKit
open Go.Lib (hid)

theorem fold_cells : ∀ (l : List Value) (k off : Nat) (A : Array Value), ((l.zipIdx k).foldl (fun acc p => acc.setIfInBounds (off + p.2) p.1) A).size = A.size ∧
    ∀ j, ((l.zipIdx k).foldl (fun acc p => acc.setIfInBounds (off + p.2) p.1) A)[j]? = if off + k ≤ j ∧ j < off + k + l.length ∧ j < A.size then l[j - (off + k)]? else A[j]?
  | [], k, off, A => ⟨rfl, fun j => by
    rw [if_neg (by simp; omega)]; rfl⟩
  | c :: l, k, off, A => by
    rw [List.zipIdx_cons, List.foldl_cons]
    obtain ⟨h1, h2⟩ := fold_cells l (k + 1) off (A.setIfInBounds (off + k) c)
    refine ⟨h1.trans (by simp), fun j => ?_⟩
    rw [h2 j]
    simp only [Array.size_setIfInBounds, Array.getElem?_setIfInBounds, List.length_cons]
    by_cases hj : off + k = j
    · subst hj
      rw [if_neg (fun hh => absurd hh.1 (by omega))]
      by_cases hs : off + k < A.size
      · rw [if_pos rfl, if_pos hs, if_pos ⟨Nat.le_refl _, by omega, hs⟩]; simp
      · rw [if_pos rfl, if_neg hs, if_neg (fun hh => hs hh.2.2), Array.getElem?_eq_none (by omega)]
    · rw [if_neg hj]
      by_cases hin : off + (k + 1) ≤ j ∧ j < off + (k + 1) + l.length ∧ j < A.size
      · rw [if_pos hin, if_pos ⟨by omega, by omega, hin.2.2⟩, show j - (off + k) = (j - (off + (k + 1))) + 1 by omega]; rfl
      · rw [if_neg hin, if_neg (fun hh => hin ⟨by omega, by omega, hh.2.2⟩)]
theorem fill_all (cs A : Array Value) (h : A.size = cs.size) : cs.zipIdx.foldl (fun acc (p : Value × Nat) => acc.setIfInBounds (0 + p.2) p.1) A = cs := by
  rw [← Array.foldl_toList, Array.toList_zipIdx]
  obtain ⟨h1, h2⟩ := fold_cells cs.toList 0 0 A
  apply Array.ext_getElem?
  intro j
  rw [h2 j]
  by_cases hj : j < cs.size
  · rw [if_pos (by simp; omega)]; simp
  · rw [if_neg (by simp; omega), Array.getElem?_eq_none (by omega), Array.getElem?_eq_none (by omega)]
theorem run_bs1 {t T : TypeId} {z : Value} {cs : Array Value} {K : Nat} (ht : Tryz.prog.underlying t = some (.slice T)) (hs : ∀ w, (sizeOf T).run Tryz.prog w = .ok K w) (hz : ∀ w, (zeroValue T).run Tryz.prog w = .ok z w) (hK : cs.size = K) (h0 : K ≠ 0) (h1 : K ≤ 100) (w : World) :
    (Instr.buildSlice t 1 #[(0, .agg cs)]).run Tryz.prog w = .ok (.slice (some ⟨w.heap.size, 0, none⟩) 1 1) (w.alloc (.cells cs T)) := by
  subst hK
  have hf : Instr.fill (fun i => some (i * cs.size, cs.size)) ((Array.range (1 * cs.size)).map (z.cells[· % z.cells.size]!)) [(0, .agg cs)] = some cs := by
    unfold Instr.fill
    simp only [Nat.zero_mul, Value.cells]
    rw [if_neg (by simp)]
    unfold Instr.fill
    rw [fill_all _ _ (by simp)]
  unfold Instr.buildSlice
  simp only [Sem.run_bind, run_underlying ht, Result.andThen_ok, hs w]
  have e24 : (2 : Nat) ^ 24 = 16777216 := by simp
  rw [e24, if_neg (show ¬ (1 * cs.size > 16777216) by omega), if_neg (show ¬ 1 * cs.size = 0 by omega)]
  simp only [Sem.run_bind, hz w, Result.andThen_ok, Sem.run_pure]
  rw [hf]
  simp only [Sem.run_bind, Sem.run_pure]
  rfl
theorem wpList_bs1 {ops : Array Oper} {rest : List Oper} {op : Oper} {a : Act} {w : World} {Q : Exit → Act → World → Prop} {x : Operand} {t T : TypeId} {z : Value} {K : Nat} (cs : Array Value) (hgd : op.guard = none) (ho : op.op = .buildSlice t 1 #[(0, x)]) (hx : a.eval x = .agg cs)
    (ht : Tryz.prog.underlying t = some (.slice T)) (hs : ∀ w, (sizeOf T).run Tryz.prog w = .ok K w) (hz : ∀ w, (zeroValue T).run Tryz.prog w = .ok z w) (hK : cs.size = K) (h0 : K ≠ 0) (h1 : K ≤ 100)
    (h : ∀ W, W.heap[w.heap.size]? = some (.cells cs T (0, 0)) → Below w.heap.size w W → W = w.alloc (.cells cs T) → wpList Tryz.prog ops Q rest (a.put op.dst (.slice (some ⟨w.heap.size, 0, none⟩) 1 1)) W) : wpList Tryz.prog ops Q (op :: rest) a w := by
  refine wpList_plain hgd fun _ hK' => ?_
  unfold Oper.wp execOp
  simp only [ho, List.map_toArray, List.map_cons, List.map_nil, hx, Sem.run_bind, run_bs1 ht hs hz hK h0 h1 w, Result.andThen_ok]
  exact hK' _ _ (h _ (heap_alloc_new w _) ((Below.refl _ w).alloc (Nat.le_refl _) _) rfl)
theorem fill_tail (c : Value) (cs A : Array Value) (h : A.size = cs.size + 1) (hc : A[0]? = some c) : cs.zipIdx.foldl (fun acc (p : Value × Nat) => acc.setIfInBounds (1 + p.2) p.1) A = #[c] ++ cs := by
  rw [← Array.foldl_toList, Array.toList_zipIdx]
  obtain ⟨h1, h2⟩ := fold_cells cs.toList 0 1 A
  apply Array.ext_getElem?
  intro j
  rw [h2 j]
  by_cases h0 : j = 0
  · subst h0; rw [if_neg (fun hh => absurd hh.1 (by omega)), hc]; simp only [Array.getElem?_append, List.size_toArray, List.length_singleton]; rfl
  · by_cases hj : j < cs.size + 1
    · rw [if_pos ⟨by omega, by simp; omega, by omega⟩, Array.getElem?_append_right (by simp; omega)]; simp
    · rw [if_neg (fun hh => hj (by omega)), Array.getElem?_eq_none (by omega), Array.getElem?_eq_none (by simp; omega)]
theorem newCells {W : World} {q : Nat} {T : TypeId} {e : Ev} (h : Ob W q T e) : ∀ (j : Nat) u, e.list[j]? = some u → W.cell? ((⟨q, 0, none⟩ : Addr).add j) = some u := fun j u hu => by
  rw [addr_add]; exact h.cell hu
theorem wpList_bsE {ops : Array Oper} {rest : List Oper} {op : Oper} {a : Act} {w : World} {Q : Exit → Act → World → Prop} {x : Operand} (e : Ev) (hgd : op.guard = none) (ho : op.op = .buildSlice 23 1 #[(0, x)]) (hx : a.eval x = .agg e.arr)
    (h : ∀ W, Ob W w.heap.size 44 e → Below w.heap.size w W → wpList Tryz.prog ops Q rest (a.put op.dst (.slice (some ⟨w.heap.size, 0, none⟩) 1 1)) W) : wpList Tryz.prog ops Q (op :: rest) a w :=
  wpList_bs1 e.arr hgd ho hx Tryz.underlying23 Tryz.sizeOf44 Tryz.zeroValue44 (Ev.size e) (by decide) (by decide) fun W h1 h2 _ => h W h1 h2
theorem wpList_apE {ops : Array Oper} {rest : List Oper} {op : Oper} {a : Act} {w : World} {Q : Exit → Act → World → Prop} {s x : Operand} {v : Value} {es : List Ev} {B q : Nat} (e : Ev) (hgd : op.guard = none) (ho : op.op = .call { callee := .builtin .append, args := #[s, x], argTypes := #[23, 23] }) (hs : a.eval s = v) (hx : a.eval x = .slice (some ⟨q, 0, none⟩) 1 1)
    (hown : OwnE w B v es) (hq : Ob w q 44 e) (hl : es.length ≤ 100000) (hB : B ≤ w.heap.size) (h : ∀ v' W, OwnE W B v' (es ++ [e]) → w.grownBy W v.ownBlock → wpList Tryz.prog ops Q rest (a.put op.dst v') W) : wpList Tryz.prog ops Q (op :: rest) a w := by
  obtain ⟨i0, hi, hz0, hz1, hz2⟩ := info_parts Tryz.infoEz
  refine wpList_append_own w hgd s x 23 ho B 44 i0 _ 19 192 Tryz.underlying23 hi hz0 hz1 hz2 rfl (by decide) v es.length _ hs hown ⟨q, 0, none⟩ 1 1 e.list hx (kE e) (newCells hq) (oneE e) (by unfold maxLen; omega) (by omega) hB ?_
  intro v' W hown' hg _
  refine h v' W ?_ hg
  unfold OwnE OwnG
  rw [flatG_append, flatG_one, List.length_append, List.length_singleton]
  exact hown'
theorem wpList_bsR {ops : Array Oper} {rest : List Oper} {op : Oper} {a : Act} {w : World} {Q : Exit → Act → World → Prop} {x : Operand} (e : Ev) (hgd : op.guard = none) (ho : op.op = .buildSlice 34 1 #[(0, x)]) (hx : a.eval x = .agg e.arr)
    (h : ∀ W, Ob W w.heap.size 74 e → Below w.heap.size w W → wpList Tryz.prog ops Q rest (a.put op.dst (.slice (some ⟨w.heap.size, 0, none⟩) 1 1)) W) : wpList Tryz.prog ops Q (op :: rest) a w :=
  wpList_bs1 e.arr hgd ho hx Tryz.underlying34 Tryz.sizeOf74 Tryz.zeroValue74 (Ev.size e) (by decide) (by decide) fun W h1 h2 _ => h W h1 h2
theorem wpList_apR {ops : Array Oper} {rest : List Oper} {op : Oper} {a : Act} {w : World} {Q : Exit → Act → World → Prop} {s x : Operand} {v : Value} {es : List Ev} {B q : Nat} (e : Ev) (hgd : op.guard = none) (ho : op.op = .call { callee := .builtin .append, args := #[s, x], argTypes := #[34, 34] }) (hs : a.eval s = v) (hx : a.eval x = .slice (some ⟨q, 0, none⟩) 1 1)
    (hown : OwnR w B v es) (hq : Ob w q 74 e) (hl : es.length ≤ 100000) (hB : B ≤ w.heap.size) (h : ∀ v' W, OwnR W B v' (es ++ [e]) → w.grownBy W v.ownBlock → wpList Tryz.prog ops Q rest (a.put op.dst v') W) : wpList Tryz.prog ops Q (op :: rest) a w := by
  obtain ⟨i0, hi, hz0, hz1, hz2⟩ := info_parts Tryz.infoRz
  refine wpList_append_own w hgd s x 34 ho B 74 i0 _ 19 192 Tryz.underlying34 hi hz0 hz1 hz2 rfl (by decide) v es.length _ hs hown ⟨q, 0, none⟩ 1 1 e.list hx (kE e) (newCells hq) (oneE e) (by unfold maxLen; omega) (by omega) hB ?_
  intro v' W hown' hg _
  refine h v' W ?_ hg
  unfold OwnR OwnG
  rw [flatG_append, flatG_one, List.length_append, List.length_singleton]
  exact hown'
end Go.Proofs.YtogoibigabpkhaaGreat


/- Entries as the document has them: the law's Of. -/
namespace Go.Proofs.YtogoibigabpkhaaGreat
set_option linter.unusedVariables false
open Go.RowKit
open Go.Lib (hid)

theorem loadEl {T : TypeId} (hu : ∃ d, Tryz.prog.underlying T = some d ∧ d.isRow = true) (hi : (Tryz.prog.info? T).map (·.size) = some 19) {ops : Array Oper} {rest : List Oper} {op : Oper} {a : Act} {w : World} {Q : Exit → Act → World → Prop} {x : Operand} {b o : Nat} (e : Ev) (hgd : op.guard = none) (ho : op.op = .load T x)
    (hx : a.eval x = .pointer (some ⟨b, o, none⟩)) (hc : w.rangeAt b o e.list) (h : wpList Tryz.prog ops Q rest (a.put op.dst (.agg e.arr)) w) : wpList Tryz.prog ops Q (op :: rest) a w := by
  obtain ⟨d, h1, h2⟩ := hu
  exact wpList_load_mid hgd T x ho b o hx e.list d hc h1 h2 (by rw [hi, Ev.len]) h
theorem uE : ∃ d, Tryz.prog.underlying 44 = some d ∧ d.isRow = true := ⟨_, Tryz.underlying44, rfl⟩
theorem uR : ∃ d, Tryz.prog.underlying 74 = some d ∧ d.isRow = true := ⟨_, Tryz.underlying74, rfl⟩
theorem iE : (Tryz.prog.info? 44).map (·.size) = some 19 := by kernel_rfl
theorem iR : (Tryz.prog.info? 74).map (·.size) = some 19 := by kernel_rfl

theorem hid2 {p q : Prop} (a : p) (b : q) : p ∧ q := ⟨a, b⟩
set_option maxHeartbeats 4000000 in
set_option maxRecDepth 100000 in
theorem rOf {v : Value} {es : List Ev} {w : World} (h : SlE w v es) (hl : es.length ≤ 100000) : Calls Tryz.prog 9 #[v] w fun e w' => ∃ r, e = .returned r ∧ OwnR w' w.heap.size r es ∧ Below w.heap.size w w' := by
  have hO := cOf
  obtain ⟨b, o, cap, a, rfl, ha, hc, hb⟩ := h
  obtain ⟨i0, hi, hz0, hz1, hz2⟩ := info_parts Tryz.infoRz
  go_enter Tryz.func9, Tryz.ntmps9
  go_wp2
  go_loopw [3, 4] (fun u i wr => ∃ (k : Nat), k ≤ es.length ∧ i = .int .i64 k ∧ OwnR wr w.heap.size u (es.take k) ∧ Below w.heap.size w wr) (fun _ i _ => es.length - (intOf i).toNat)
  case atStart => exact ⟨0, Nat.zero_le _, rfl, OwnG.nil _ _ _ _ _, Below.refl _ _⟩
  case round =>
    obtain ⟨k, hk, rfl, hown, hB⟩ := hrel
    have hsz := hB.size
    have HB := hid hB
    have HBB := hid hB
    have HN := hid hown
    have HKL : Hid ((es.take k).length ≤ 100000) := hid (by rw [List.length_take]; omega)
    obtain ⟨g0, cap0, n0, rfl, -⟩ := hown.asSlice
    clear hB hown
    by_cases hlt : k < es.length
    · obtain rfl := ha (by omega)
      obtain ⟨e, he⟩ : ∃ e, es[k]? = some e := ⟨es[k], List.getElem?_eq_getElem hlt⟩
      have hbw := hb (by omega)
      have HC : Hid (wr.rangeAt b (o + k * 19) e.list) := hid ((hc.on HB.out fun _ => hbw) k e he)
      have HE := hid he
      clear hc he
      go_wp2_with (first
        | ((with_reducible refine loadEl (T := 44) (x := ?lx1) (b := ?lb1) (o := ?lo1) uE iE e ?lg1 ?lp1 ?lxx1 ?lc1 ?_); (case lg1 => rfl); (case lp1 => rfl); (case lxx1 => rfl); (case lc1 => exact HC.out))
        | (go_at_call 34; refine (hO e _).mono ?_; rintro x w1 ⟨rfl, hB1⟩; have HB1 := hid (HB.out.trans (hB1.mono HB.out.size)); have HO := hid (OwnG.on HN.out hB1); have hs1 := HB1.out.size; clear hB1)
        | ((with_reducible refine wpList_bsR (x := ?bx2) e ?bg2 ?bo2 ?bv2 ?_); (case bg2 => rfl); (case bo2 => rfl); (case bv2 => rfl); intro W2 hN hB2; have hs2 := hB2.size; have HN2 := hid hN; have HO2 := hid (OwnG.on HO.out hB2); have HB2 := hid (HB1.out.trans (hB2.mono hs1)); clear hN hB2)
        | (at_builtin; go_loud ((with_reducible refine wpList_apR (s := ?as3) (x := ?ax3) (es := es.take k) (B := w.heap.size) (q := w1.heap.size) e ?ag3 ?ao3 ?av3 ?aw3 HO2.out HN2.out HKL.out (Nat.le_trans hs1 hs2) ?_); (case ag3 => rfl); (case ao3 => rfl); (case av3 => rfl); (case aw3 => rfl); intro v' w3 hO3 hg; have HX := hid (hid2 hO3 (HB2.out.grown hg (by omega) (fun j hj => (HO2.out.lt j hj).1))); obtain ⟨g', cap', n', rfl, -⟩ := hO3.asSlice; clear hO3 hg HO HO2 HN2))
        | fail)
      go_roundw
      case rel => exact ⟨k + 1, by omega, by congr 1, by rw [takeN_snoc HE.out]; exact HX.out.1, HX.out.2⟩
      case measure => simp [intOf]; omega
    · have hkk : k = es.length := by omega
      subst hkk
      rw [List.take_length] at HN
      clear HB
      go_wp2_with fail
      go_ret
      exact ⟨_, rfl, HN.out, HBB.out⟩
end Go.Proofs.YtogoibigabpkhaaGreat



/- The document's put, and what it keeps of records. -/
namespace Go.Proofs.YtogoibigabpkhaaGreat
set_option linter.unusedVariables false
open Go.RowKit
open Go.Lib (hid)

abbrev idE (e : Ev) : Int := e.c.i
abbrev stE (x : Ev) (es : List Ev) : List Ev × Bool := es.foldl (putStep idE x) ([], false)
theorem stE_snoc (x : Ev) (es : List Ev) (y : Ev) : stE x (es ++ [y]) = putStep idE x (stE x es) y := by simp [stE]
theorem putStep_a {x y : Ev} {s : List Ev × Bool} (h : s.2 = false) (h1 : x.c.i ≤ y.c.i) (h2 : y.c.i = x.c.i) : putStep idE x s y = (s.1 ++ [x], true) := by simp [putStep, idE, h, h2]
theorem putStep_b {x y : Ev} {s : List Ev × Bool} (h : s.2 = false) (h1 : x.c.i ≤ y.c.i) (h2 : ¬ y.c.i = x.c.i) : putStep idE x s y = (s.1 ++ [x] ++ [y], true) := by simp [putStep, idE, h, h1, h2]
theorem putStep_c {x y : Ev} {s : List Ev × Bool} (h : s.2 = false) (h1 : ¬ x.c.i ≤ y.c.i) (h2 : ¬ y.c.i = x.c.i) : putStep idE x s y = (s.1 ++ [y], false) := by simp [putStep, idE, h, h1, h2]
theorem putStep_d {x y : Ev} {s : List Ev × Bool} (h : s.2 = true) (h2 : y.c.i = x.c.i) : putStep idE x s y = (s.1, true) := by simp [putStep, h, h2]
theorem putStep_e {x y : Ev} {s : List Ev × Bool} (h : s.2 = true) (h2 : ¬ y.c.i = x.c.i) : putStep idE x s y = (s.1 ++ [y], true) := by simp [putStep, h, h2]
theorem stE_len (x : Ev) (es : List Ev) : (stE x es).1.length ≤ es.length + 1 ∧ ((stE x es).2 = false → (stE x es).1.length ≤ es.length) := by
  induction es using snocRec with
  | nil => simp [stE]
  | snoc es y ih =>
    rw [stE_snoc]
    rcases hd : (stE x es).2 with _ | _
    · have := ih.2 hd
      by_cases h1 : x.c.i ≤ y.c.i
      · by_cases h2 : y.c.i = x.c.i
        · rw [putStep_a hd h1 h2]; simp; omega
        · rw [putStep_b hd h1 h2]; simp; omega
      · rw [putStep_c hd h1 (by omega)]; simp; omega
    · have := ih.1
      by_cases h2 : y.c.i = x.c.i
      · rw [putStep_d hd h2]; simp; omega
      · rw [putStep_e hd h2]; simp; omega

end Go.Proofs.YtogoibigabpkhaaGreat
