import Derived.Test.YtpkkmfppdhjpkaaGreatGa27
import Derived.Test.YtpkkmfppdhjpkaaGreatJMathM
import Derived.Test.YtpkkmfppdhjpkaaGreatGa28
import Derived.Maps.Own
import Derived.Maps.Views
import Derived.Maps.OwnSet
import Derived.Maps.RangeWalk
import Derived.StillTailTactics



/- The journal's map: of each name the last entry that was kept; the program's keep. -/
namespace Go.Proofs.YtpkkmfppdhjpkaaGreat
set_option linter.unusedVariables false
open Go.RowKit
open Go.Lib (hid)

/-- Nothing that was there has turned, but the blocks of a set. -/
structure Tch (S : Nat → Prop) (w w' : World) : Prop where
  os : w'.os = w.os
  tape : w'.tape = w.tape
  output : w'.output = w.output
  size : w.heap.size ≤ w'.heap.size
  block : ∀ k, k < w.heap.size → ¬ S k → w'.heap[k]? = w.heap[k]?
theorem Tch.refl (S : Nat → Prop) (w : World) : Tch S w w := ⟨rfl, rfl, rfl, Nat.le_refl _, fun _ _ _ => rfl⟩
theorem Tch.trans {S : Nat → Prop} {a b c : World} (h : Tch S a b) (k : Tch S b c) : Tch S a c :=
  ⟨k.os.trans h.os, k.tape.trans h.tape, k.output.trans h.output, Nat.le_trans h.size k.size, fun i hi hn => (k.block i (Nat.lt_of_lt_of_le hi h.size) hn).trans (h.block i hi hn)⟩
theorem Tch.mono {S S' : Nat → Prop} {a b : World} (h : Tch S a b) (hS : ∀ k, S k → S' k) : Tch S' a b := ⟨h.os, h.tape, h.output, h.size, fun i hi hn => h.block i hi fun hs => hn (hS i hs)⟩
theorem Tch.ofBelow {S : Nat → Prop} {w w' : World} (h : Below w.heap.size w w') : Tch S w w' := ⟨h.1, h.2, h.3, h.4, fun k hk _ => h.5 k hk⟩
theorem Tch.ofGrown {S : Nat → Prop} {w w' : World} {row : Option Nat} (h : w.grownBy w' row) (hr : ∀ k, row = some k → S k) : Tch S w w' :=
  ⟨h.os, h.tape, h.output, h.size, fun k hk hn => h.block k hk fun e => hn (hr k e.symm)⟩
theorem Tch.below {S : Nat → Prop} {B : Nat} {w w' : World} (h : Tch S w w') (hS : ∀ k, S k → B ≤ k) (hB : B ≤ w.heap.size) : Below B w w' :=
  ⟨h.os, h.tape, h.output, h.size, fun k hk => h.block k (by omega) fun hs => by have := hS k hs; omega⟩
theorem Tch.ob {S : Nat → Prop} {w w' : World} (h : Tch S w w') {k : Nat} {o : Obj} (hk : w.heap[k]? = some o) (hS : ¬ S k) : w'.heap[k]? = some o := (h.block k (Array.getElem?_eq_some_iff.1 hk).1 hS).trans hk
theorem cell_of_heap {w w' : World} {k i : Nat} (h : w'.heap[k]? = w.heap[k]?) : w'.cell? ⟨k, i, none⟩ = w.cell? ⟨k, i, none⟩ := World.cell?_of_block (a := ⟨k, i, none⟩) h
/-- Commands stand, if what has turned has no seven cells. -/
theorem Sl.tch {S : Nat → Prop} {w w' : World} {v : Value} {cs : List C7} (h : Sl w v cs) (ht : Tch S w w') (hS : ∀ k, S k → ∀ i, 6 ≤ i → w.cell? ⟨k, i, none⟩ = none) : Sl w' v cs := by
  obtain ⟨b, o, cap, a, rfl, hn, ha, hc, hl⟩ := h
  refine ⟨b, o, cap, a, rfl, hn, ha, fun j c hj f u hu => ?_, fun h0 => Nat.lt_of_lt_of_le (hl h0) ht.size⟩
  have h0 : 0 < cs.length := by have := (List.getElem?_eq_some_iff.1 hj).1; omega
  have hb : ¬ S b := fun hs => by
    have h6 := hc j c hj 6 _ rfl
    rw [hS b hs _ (by omega)] at h6
    cases h6
  rw [cell_of_heap (ht.block b (hl h0) hb)]
  exact hc j c hj f u hu
theorem En.at.tch {S : Nat → Prop} {w w' : World} {x : En} (h : x.at w) (ht : Tch S w w') (hS : ∀ k, S k → ∀ i, 6 ≤ i → w.cell? ⟨k, i, none⟩ = none) : x.at w' := ⟨h.1.tch ht hS, h.2.1.tch ht hS, h.2.2.tch ht hS⟩
theorem AllAt.tch {S : Nat → Prop} {w w' : World} {xs : List En} (h : AllAt w xs) (ht : Tch S w w') (hS : ∀ k, S k → ∀ i, 6 ≤ i → w.cell? ⟨k, i, none⟩ = none) : AllAt w' xs := fun x hx => (h x hx).tch ht hS

open Classical in
/-- How an entry in the map reads: as itself. -/
noncomputable def RE (v : Value) : Option (DataW Value × List MemPlace) := if ∃ e : Ev, v = .agg e.arr then some (.held v, []) else none
theorem RE_mk (e : Ev) : RE (.agg e.arr) = some (.held (.agg e.arr), []) := by unfold RE; rw [if_pos ⟨e, rfl⟩]
theorem RE_inv {v : Value} {y : DataW Value × List MemPlace} (h : RE v = some y) : ∃ e : Ev, v = .agg e.arr ∧ y = (.held (.agg e.arr), []) := by
  unfold RE at h
  split at h
  · rename_i hx; obtain ⟨e, rfl⟩ := hx; cases h; exact ⟨e, rfl, rfl⟩
  · cases h
theorem ev_inj {e e' : Ev} (h : e.arr = e'.arr) : e = e' := by
  have hl : e.list = e'.list := by rw [← Ev.toList e, h, Ev.toList]
  obtain ⟨c, pr, lo, hi, ft, fp, ab, xt, xp, fr, dn, vt, vp⟩ := e
  obtain ⟨c', pr', lo', hi', ft', fp', ab', xt', xp', fr', dn', vt', vp'⟩ := e'
  obtain ⟨a1, a2, a3, a4, a5, a6, a7⟩ := c
  obtain ⟨b1, b2, b3, b4, b5, b6, b7⟩ := c'
  obtain ⟨p1, p2, p3⟩ := fp
  obtain ⟨q1, q2, q3⟩ := fp'
  obtain ⟨r1, r2, r3⟩ := xp
  obtain ⟨s1, s2, s3⟩ := xp'
  obtain ⟨t1, t2, t3⟩ := vp
  obtain ⟨u1, u2, u3⟩ := vp'
  simp [Ev.list] at hl
  simp_all
abbrev key (i : Int) : Lit := .int .i64 i
theorem key_ne {i j : Int} (h : i ≠ j) : key i ≠ key j := fun e => h (by cases e; rfl)
/-- What the map's reading says of each name. -/
def Says (D : DataW Value) (xs : List En) : Prop := ∀ i, (∀ x, lookG En.id xs i = some x → Maps.has D (key i) = true ∧ ∀ z, D.atKey (key i) z = .held (.agg x.e.arr)) ∧ (lookG En.id xs i = none → Maps.has D (key i) = false)
def Mp (w : World) (b n : Nat) (xs : List En) : Prop := ∃ D : DataW Value, w.ownsMap Tryz.prog 3 RE b n D ∧ Says D xs
theorem own_isMap {w : World} {P : Program} {k : TypeId} {R : Value → Option (DataW Value × List MemPlace)} {b n : Nat} {D : DataW Value} (h : w.ownsMap P k R b n D) : Maps.IsMap D := by
  obtain ⟨es, clock, _, _, _, rfl⟩ := h; exact ⟨_, rfl⟩
theorem Mp.made (w : World) : Mp (w.alloc (.map #[] 0)) w.heap.size 0 [] := ⟨_, World.ownsMap_made w _ _ _, fun i => ⟨fun x h => by simp [lookG] at h, fun _ => rfl⟩⟩
theorem Says.put {D : DataW Value} {xs : List En} (h : Says D xs) (hD : Maps.IsMap D) (x : En) : Says (D.put (key x.id) (.held (.agg x.e.arr))) (xs ++ [x]) := fun i => by
  by_cases hi : x.id = i
  · subst hi
    refine ⟨fun y hy => ?_, fun hy => ?_⟩
    · rw [look_snoc, if_pos rfl] at hy; cases hy
      have hk : WideAt.IsKeyLit (key x.id) := trivial
      exact ⟨Maps.has_put_same hD hk _, fun z => Maps.atKey_put_same hD hk _ z⟩
    · rw [look_snoc, if_pos rfl] at hy; cases hy
  · have hne := key_ne (Ne.symm hi)
    refine ⟨fun y hy => ?_, fun hy => ?_⟩
    · rw [look_snoc, if_neg hi] at hy
      obtain ⟨h1, h2⟩ := (h i).1 y hy
      exact ⟨(Maps.has_put_other hne _).trans h1, fun z => (Maps.atKey_put_other hne _ z).trans (h2 z)⟩
    · rw [look_snoc, if_neg hi] at hy
      exact (Maps.has_put_other hne _).trans ((h i).2 hy)
theorem Mp.lt {w : World} {b n : Nat} {xs : List En} (h : Mp w b n xs) : b < w.heap.size := by obtain ⟨D, h, _⟩ := h; exact h.lt
theorem Mp.keptT {S : Nat → Prop} {w w' : World} {b n : Nat} {xs : List En} (h : Mp w b n xs) (ht : Tch S w w') (hS : ¬ S b) : Mp w' b n xs := by
  obtain ⟨D, ⟨es, clock, hb, hrest⟩, hs⟩ := h
  exact ⟨D, ⟨es, clock, ht.ob hb hS, hrest⟩, hs⟩
theorem Mp.on {w w' : World} {b n : Nat} {xs : List En} (h : Mp w b n xs) (hb : Below w.heap.size w w') : Mp w' b n xs := h.keptT (Tch.ofBelow (S := fun _ => False) hb) (fun h => h)
theorem Mp.nocell {w : World} {b n : Nat} {xs : List En} (h : Mp w b n xs) (i : Nat) : w.cell? ⟨b, i, none⟩ = none := by
  obtain ⟨D, ⟨es, clock, hb, _⟩, _⟩ := h
  simp [World.cell?, hb]
/-- Block j holds a journal: its disk, its map, its clock. -/
abbrev Jn (w : World) (j : Nat) (dp : Value) (b : Nat) (c : Int) : Prop := w.heap[j]? = some (.cells #[dp, .map (some b), .int .i64 c] 72 (0, 0))
theorem Jn.nocell {w : World} {j b : Nat} {dp : Value} {c : Int} (h : Jn w j dp b c) (i : Nat) (hi : 6 ≤ i) : w.cell? ⟨j, i, none⟩ = none := by
  rw [cellAt' h, Array.getElem?_eq_none (by simp; omega)]
theorem Jn.ne {w : World} {j b n : Nat} {dp : Value} {c : Int} {xs : List En} (h : Jn w j dp b c) (hm : Mp w b n xs) : j ≠ b := fun e => by
  subst e
  have := hm.nocell 0
  rw [cellAt' h] at this; cases this
theorem Jn.set2 {w : World} {j b : Nat} {dp : Value} {c d : Int} (h : Jn w j dp b c) : Jn (w.setCell ⟨j, 2, none⟩ (.int .i64 d)) j dp b d := by
  have := setAt (j := 2) (x := .int .i64 d) h
  simpa using this
theorem stillC {ops : Array Oper} {rest : List Oper} {o : Oper} {a : Act} {w : World} {Q : Act → Prop} {x : Operand} {q : Nat} {T : TypeId} (e : Ev) (hg : Region.wanted o (yielded ops a.tmps) = true) (ho : o.op = .load 48 x) (hx : a.eval x = .pointer (some ⟨q, 0, none⟩)) (hC : Ob w q T e)
    (h : wpStill Tryz.prog ops w Q rest (a.put o.dst (.agg e.arr))) : wpStill Tryz.prog ops w Q (o :: rest) a := by
  refine wpStill_step fun K hK => ?_
  rw [if_pos hg]
  unfold Oper.still execOp
  simp only [ho, hx, Instr.loadAt, Instr.sureAddr, Sem.run_bind, Sem.run_pure, Result.andThen_ok, run_loadVar_mid w q 0 48 e.list _ hC.range Tryz.underlying48 rfl (infoEc e)]
  exact ⟨rfl, hK _ h⟩
theorem i64_wf {x : Int} (h : -9223372036854775808 ≤ x ∧ x ≤ 9223372036854775807) : (Lit.int .i64 x).wf = true := by
  have e1 : IntKind.i64.min = -9223372036854775808 := by decide
  have e2 : IntKind.i64.max = 9223372036854775807 := by decide
  simp [Lit.wf, e1, e2]; exact h

set_option maxHeartbeats 4000000 in
set_option maxRecDepth 100000 in
theorem cKeep {w : World} {j b n : Nat} {dp : Value} {c0 clock : Int} {x : En} {xs : List En} (hj : Jn w j dp b c0) (hm : Mp w b n xs) (hn : n < maxLen) (hw : (Lit.int .i64 x.id).wf = true) :
    Calls Tryz.prog 22 #[ptr j, .int .i64 clock, .agg x.e.arr] w fun r w' => r = .returned (.tuple #[]) ∧ Jn w' j dp b clock ∧ Mp w' b (n + 1) (xs ++ [x]) ∧ Tch (fun k => k = j ∨ k = b) w w' := by
  have hne := hj.ne hm
  have HX : Hid ((w.alloc (.cells x.e.arr 48)).heap[w.heap.size]? = some (.cells x.e.arr 48)) := hid (heap_alloc_new w _)
  have HW : Hid (Below w.heap.size w (w.alloc (.cells x.e.arr 48))) := hid ((Below.refl _ w).alloc (Nat.le_refl _) _)
  have HJ : Hid (Jn (w.alloc (.cells x.e.arr 48)) j dp b c0) := hid (obAlloc hj)
  have HM : Hid (Mp (w.alloc (.cells x.e.arr 48)) b n xs) := hid (hm.on HW.out)
  have HL : Hid (j < w.heap.size ∧ b < w.heap.size) := hid ⟨(Array.getElem?_eq_some_iff.1 hj).1, hm.lt⟩
  clear hj hm
  go_enter Tryz.func22, Tryz.ntmps22
  go_wp2_with fail
  obtain ⟨W0, hW0⟩ : ∃ W0, W0 = w.alloc (.cells x.e.arr 48) := ⟨_, rfl⟩
  rw [← hW0] at HX HW HJ HM ⊢
  clear hW0
  refine wp_region_still_tail 8 (by kernel_rfl) (by kernel_rfl) ?_
  obtain ⟨W1, hW1⟩ : ∃ W1 : World, W1 = { W0 with drawn := W0.drawn + 1 } := ⟨_, rfl⟩
  rw [← hW1]
  replace HX : Hid (Ob W1 w.heap.size 48 x.e) := hid (by rw [hW1]; exact HX.out)
  replace HJ : Hid (Jn W1 j dp b c0) := hid (by rw [hW1]; exact HJ.out)
  replace HM : Hid (Mp W1 b n xs) := hid (by rw [hW1]; exact HM.out)
  replace HW : Hid (Below w.heap.size w W1) := hid (by rw [hW1]; exact belowDrew HW.out)
  clear hW1
  have k1 : W1.cell? ⟨j, 1, none⟩ = some (Value.map (some b)) := (cellAt' HJ.out 1).trans rfl
  have k2 : W1.cell? ⟨w.heap.size, 0, none⟩ = some (.int .i64 x.e.c.i) := (cellAt' HX.out 0).trans rfl
  simp only [List.take_succ_cons, List.take_zero, List.drop_succ_cons, List.drop_zero]
  still_step
  still_step
  still_step
  still_step
  still_step
  still_step
  still_step
  refine stillC x.e rfl rfl rfl HX.out ?_
  refine wpStill_nil ?_
  obtain ⟨D, hD, hS⟩ := HM.out
  refine wpList_mapUpdate_own _ rfl _ _ _ 70 rfl 3 48 (Maps.int_keyed Tryz.underlying3) Tryz.underlying70 RE b n D rfl hD hn _ _ (key x.id) rfl rfl (Maps.keyOf_int_mk Tryz.underlying3 hw) _ [] (RE_mk x.e) ?_
  intro W2 hD2 hg
  have HJ2 : Hid (Jn W2 j dp b c0) := hid (obKept HJ.out hg (fun e => hne (Option.some.inj e).symm))
  have HM2 : Hid (Mp W2 b (n + 1) (xs ++ [x])) := hid ⟨_, hD2, hS.put (own_isMap hD) x⟩
  have HT : Hid (Tch (fun k => k = j ∨ k = b) w W2) := hid ((Tch.ofBelow HW.out).trans (Tch.ofGrown hg fun k e => .inr (Option.some.inj e).symm))
  clear hD hS hD2 hg HX HJ HM HW k1 k2
  have k3 : W2.frozen? ⟨j, 2, none⟩ = false := frozenAt HJ2.out 2
  have k4 : W2.cell? ⟨j, 2, none⟩ = some (.int .i64 c0) := (cellAt' HJ2.out 2).trans rfl
  go_wp2_with fail
  go_end0
  have hg2 := grownSet W2 ⟨j, 2, none⟩ (.int .i64 clock)
  exact ⟨rfl, HJ2.out.set2, HM2.out.keptT (Tch.ofGrown (S := fun k => k = j) hg2 fun k e => (Option.some.inj e).symm) (fun e => hne e.symm), HT.out.trans (Tch.ofGrown hg2 fun k e => .inl (Option.some.inj e).symm)⟩
end Go.Proofs.YtpkkmfppdhjpkaaGreat
