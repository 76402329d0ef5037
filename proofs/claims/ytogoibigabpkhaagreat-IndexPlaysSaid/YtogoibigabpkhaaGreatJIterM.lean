import Derived.Test.YtogoibigabpkhaaGreatG11
import Derived.Shelf.SlIterI.Collect
import Derived.Maps.OwnIn
import Derived.Lib.SlKeysI
import Derived.RangeFuncGives
import Derived.OwnWalkIn
import Derived.TacticsInMore
import Derived.RegionIn
import Derived.LoopNIn
import Derived.LoopIn

/- The library's iterator over the values of the journal's map. -/
namespace Go.Proofs.YtogoibigabpkhaaGreat
set_option linter.unusedVariables false
open Go.RowKit Go.Maps Go.Sort
open Go.Lib (hid)

section
variable {F : Fence} {n : Nat}
theorem inLoadC {ops : Array Oper} {rest : List Oper} {op : Oper} {a : Act} {w : World} {Q : Exit → Act → World → Prop} {x : Operand} {b : Nat} (e : Ev) (hgd : op.guard = none) (ho : op.op = .load 44 x)
    (hx : a.eval x = .pointer (some ⟨b, 0, none⟩)) {T : TypeId} (hc : Ob w b T e) (h : wpListIn F n Tryz.prog ops Q rest (a.put op.dst (.agg e.arr)) w) : wpListIn F n Tryz.prog ops Q (op :: rest) a w := by
  refine wpListIn_plain hgd fun K hK => ?_
  unfold Oper.wpIn
  refine ⟨by simp [Oper.about, ho], ?_⟩
  rw [Oper.semAt_plain F _ _ (by rw [ho]; intro c hc'; cases hc')]
  unfold execOp
  simp only [ho, hx, Instr.loadAt, Instr.sureAddr, Sem.run_bind, Sem.run_pure, Result.andThen_ok, run_loadVar_mid w b 0 44 e.list _ hc.range Tryz.underlying44 rfl (infoEc e)]
  exact hK _ _ h
theorem inStoreC {ops : Array Oper} {rest : List Oper} {op : Oper} {a : Act} {w : World} {Q : Exit → Act → World → Prop} {x y : Operand} {b : Nat} {T : TypeId} (e : Ev) (hgd : op.guard = none) (ho : op.op = .store 44 x y)
    (hx : a.eval x = .pointer (some ⟨b, 0, none⟩)) (hy : a.eval y = .agg e.arr) (hC : Room w b T) (h : ∀ W, Ob W b T e → Upd b w W → wpListIn F n Tryz.prog ops Q rest (a.put op.dst undef) W) : wpListIn F n Tryz.prog ops Q (op :: rest) a w := by
  obtain ⟨C, hC, hs⟩ := hC
  refine wpListIn_plain hgd fun K hK => ?_
  unfold Oper.wpIn
  refine ⟨by simp [Oper.about, ho], ?_⟩
  rw [Oper.semAt_plain F _ _ (by rw [ho]; intro c hc'; cases hc')]
  unfold execOp
  simp only [ho, hx, hy, Instr.storeAt, Instr.sureAddr, Sem.run_bind, Sem.run_pure, Result.andThen_ok, run_storeVar_mid w b 0 44 e.arr (thereOf hC (by rw [hs]; exact Nat.le_refl _)) (infoEc' e) (Ev.one e)]
  exact hK _ _ (h _ (setsOb e hC hs) (setsUpd w b _))
end
theorem zeroRoom (w : World) : Room (w.alloc zeroEc) w.heap.size 44 := ⟨_, heap_alloc_new w _, rfl⟩

/-- All that the map holds, each once, in some order. -/
def AllOf (xs : List En) (es : List Ev) : Prop := (es.map fun e => e.c.i).Nodup ∧ ∀ e, e ∈ es ↔ ∃ x, lookG En.id xs e.c.i = some x ∧ x.e = e
theorem says_at {D : DataW Value} {xs : List En} (h : Says D xs) {i : Int} {c : Ev} (hat : ∀ zd, D.atKey (key i) zd = .held (.agg c.arr)) : ∃ x, lookG En.id xs i = some x ∧ x.e = c ∧ c.c.i = i := by
  have hh := Maps.has_true_of_atKey hat
  rcases hl : lookG En.id xs i with _ | x
  · rw [(h i).2 hl] at hh; cases hh
  · have := ((h i).1 x hl).2 (.held (.agg c.arr))
    rw [hat] at this
    have e : x.e = c := ev_inj (Value.agg.inj (DataW.held.inj this)).symm
    exact ⟨x, rfl, e, by rw [← e]; exact (look_key En.id xs i x hl).1⟩
theorem all_of {D : DataW Value} {xs : List En} {left : Lit → Bool} {es : List Ev} (h : Says D xs) (hC : CollectedI D left (es.map fun e => e.c.i)) (hl : ∀ kl, left kl = false) (hV : ∀ e ∈ es, ∀ zd, D.atKey (key e.c.i) zd = .held (.agg e.arr)) : AllOf xs es := by
  refine ⟨hC.1, fun e => ⟨fun he => ?_, fun he => ?_⟩⟩
  · obtain ⟨x, h1, h2, _⟩ := says_at h (hV e he); exact ⟨x, h1, h2⟩
  · obtain ⟨x, h1, h2⟩ := he
    have hin := (hC.2 e.c.i).2 ⟨((h e.c.i).1 x h1).1, hl _⟩
    obtain ⟨e', he', hi⟩ := List.mem_map.1 hin
    obtain ⟨y, h3, h4, _⟩ := says_at h (hV e' he')
    rw [hi] at h3
    rw [h1] at h3
    cases h3
    rw [← h2, h4]; exact he'

set_option maxRecDepth 100000 in
set_option maxHeartbeats 4000000 in
theorem values1_in (F : Fence) (n : Nat) (h60 : F.fn 81) (hro : F.round = none) (hn : 1 ≤ n) (l Bm b nn : Nat) (xs : List En) (J : List Ev → World → Prop)
    (hY : ∀ pre x W, J pre W → pre.length < nn → YieldAt F (n - 1) Tryz.prog l #[.agg x.arr] W fun e W' => e = .returned (.bool true) ∧ J (pre ++ [x]) W' ∧ KeepsWalks W W')
    (W : World) (hJ : AbidesFrom W.heap.size J) (hm : W.cell? ⟨Bm, 0, none⟩ = some (Value.map (some b))) (hown : Mp W b nn xs) (h0 : J [] W) :
    CallsIn F n Tryz.prog 81 #[.func (.yield l) #[] #[], .pointer (some ⟨Bm, 0, none⟩)] W fun e W' => (∃ v, e = .returned v) ∧ ∃ es, AllOf xs es ∧ J es W' := by
  obtain ⟨D0, hD, hS⟩ := hown
  have hsz := hD.size_le
  refine callsIn_of_wp Tryz.func81 rfl h60 ?_ hro
  simp only [Tryz.ntmps81, List.size_toArray, List.length_cons, List.length_nil, Nat.reduceAdd, Nat.reduceSub, Array.replicate_succ, Array.replicate_zero, List.push_toArray, List.append_toArray, List.nil_append, List.cons_append]
  gi_wp2_with (first
    | (gi_at_range; refine wpListIn_range_own _ rfl _ 69 rfl 3 44 (int_keyed Tryz.underlying3) Tryz.underlying69 RE b nn _ rfl hD ?_; intro w0 hrg0 hg0 hs0)
    | gi_in)
  go_frame
  gi_loopw [4] (fun _ wr => ∃ (left : Lit → Bool) (cnt : Nat) (es : List Ev), wr.ranges Tryz.prog 3 RE b W.heap.size nn D0 left cnt ∧ es.length + cnt ≤ Maps.size D0 ∧ CollectedI D0 left (es.map fun e => e.c.i) ∧ (∀ e ∈ es, ∀ zd, D0.atKey (key e.c.i) zd = .held (.agg e.arr)) ∧ J es wr)
    (fun _ wr => wr.rangeLeft b W.heap.size)
  case atStart =>
    exact ⟨_, _, [], hrg0, by simp, CollectedI.start D0, by simp, hJ [] W w0 none h0 hg0 (fun r e => by cases e)⟩
  case round =>
    obtain ⟨left, cnt, es, hrg, hcs, hC, hV, hJs⟩ := hrel
    gi_wp2_with (first
      | (gi_at_next; refine wpListIn_next_ranges _ rfl _ rfl 3 (int_keyed Tryz.underlying3) RE encZ (fun e : Ev => Value.agg e.arr) (fun key kl hk => by obtain ⟨x, hx, _⟩ := Maps.keyOf_i64 Tryz.underlying3 hk; exact ⟨x, hx⟩) (fun v y hv => by obtain ⟨e, rfl, _⟩ := RE_inv hv; exact ⟨e, rfl⟩) b W.heap.size nn _ _ _ rfl hrg ?_ ?_)
      | gi_in)
    · -- nothing is left
      intro hc0 hl0
      gi_wp2
      go_end0
      exact ⟨⟨_, rfl⟩, es, all_of hS hC hl0 hV, hJs⟩
    · -- an entry has come
      intro x c kl yd yp w2 cnt2 hkey hlk hv hat hrg2 hlt hg2 hs2 hen
      obtain ⟨x', ex, rfl, _⟩ := Maps.keyOf_i64 Tryz.underlying3 hkey
      obtain rfl : x = x' := encZ_inj ex
      rw [RE_mk] at hv
      obtain rfl : yd = .held (.agg c.arr) := by cases hv; rfl
      obtain ⟨y, _, _, hci⟩ := says_at hS hat
      have hJ2 : J es w2 := hJ es wr w2 (some W.heap.size) hJs hg2 (fun r e => by cases e; exact ⟨Nat.le_refl _, hrg.iter_walk⟩)
      have HJ2 := hid hJ2
      have HRG := hid hrg2
      have HLT := hid hlt
      have HC := hid (show CollectedI D0 (fun z => left z && !z.sameKey (key x)) ((es ++ [c]).map fun e => e.c.i) by have := hC.step hlk hat; simpa [hci] using this)
      have HV := hid (show ∀ e ∈ es ++ [c], ∀ zd, D0.atKey (key e.c.i) zd = .held (.agg e.arr) from fun e he => (List.mem_append.1 he).elim (hV e) (fun h => by simp at h; subst h; rw [hci]; exact hat))
      have HCS := hid hcs
      clear hs2 hrg2 hlt hC hV hv hat hkey hlk hcs hg2 hJ2
      gi_wp2_with (first
        | ((with_reducible refine inStoreC (x := ?sx1) (y := ?sy1) (b := ?sb1) (T := 44) c ?sg1 ?so1 ?sxx1 ?syy1 ?sc1 ?_); (case sg1 => rfl); (case so1 => rfl); (case sxx1 => rfl); (case syy1 => rfl); (case sc1 => exact zeroRoom w2); intro W4 hO4 hU4; have HO4 := hid hO4; have hb4 : Below w2.heap.size w2 W4 := ((Below.refl _ w2).alloc (Nat.le_refl _) _).trans (hU4.below _ (Nat.le_refl _)); have hg4 := grownBelow hb4 none; have HRG4 := hid (HRG.out.kept hg4 (by simp) (by simp)); have hJ4 := hJ es w2 W4 none HJ2.out hg4 (fun r e => by cases e); obtain ⟨fn, tmps, assign, body, hy, hR⟩ := hY es c W4 hJ4 (by have := HCS.out; have := HLT.out; omega); have HR := hid hR; clear hO4 hU4 hb4 hg4 hJ4 hR)
        | ((with_reducible refine inLoadC (x := ?cx1) (b := ?cb1) (T := 44) c ?cg1 ?co1 ?cxx1 ?cc1 ?_); (case cg1 => rfl); (case co1 => rfl); (case cxx1 => rfl); (case cc1 => exact HO4.out))
        | gi_in)
      refine HR.out.mono ?_
      rintro e W3 ⟨rfl, hJ3, hk3⟩
      have HJ3 := hid hJ3
      have hrg3 := HRG4.out.of_walks hk3
      clear hJ3 hk3
      gi_wp2
      go_roundw
      case rel => exact ⟨_, cnt2, es ++ [c], hrg3, by have := HCS.out; have := HLT.out; simp; omega, HC.out, HV.out, HJ3.out⟩
      case measure => rw [hrg3.left_eq, hrg.left_eq]; exact HLT.out
end Go.Proofs.YtogoibigabpkhaaGreat
