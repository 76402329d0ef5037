import Derived.Test.YtmggggijamligaaG07
import Derived.Test.YtmggggijamligaaG04
import Derived.Maps.Own
import Derived.Maps.OwnSet
import Derived.Maps.Views
namespace Go.Proofs.Ytmggggijamligaa
set_option linter.unusedVariables false
open Go.RowKit
open Go.Lib (hid)
theorem perm_last {l l2 : List Tn} {x : Tn} {n : Nat} (h : l2.Perm l) (hl : l2.length = n + 1) (hx : atT l2 n = x) : l.Perm (x :: l2.take n) := by
  have h1 := take_last hl
  rw [hx] at h1
  refine h.symm.trans ?_
  conv => lhs; rw [h1]
  exact List.perm_append_singleton _ _
set_option maxHeartbeats 4000000 in
set_option maxRecDepth 100000 in
theorem cHPush {w : World} {B R : Nat} {rc : Array Value} {tv : Value} {l : List Tn} (h : HpAt w B R rc tv l) (hh : HeapTo l l.length) (hl : l.length ≤ 900000) (hB : B ≤ w.heap.size) (x : Tn) : Calls Try.prog 35 #[.iface 83 (.pointer (some ⟨R, 5, none⟩)), .iface 81 (.agg (tnC x).toArray)] w fun e w' => e = .returned (.tuple #[]) ∧ ∃ tv' l', l'.Perm (x :: l) ∧ HeapTo l' l'.length ∧ HpAt w' B R (rc.setIfInBounds 5 tv') tv' l' ∧ Tch (HpS R tv) w w' := by
  have HH := hid h
  have HHP := hid hh
  have HL := hid hl
  have hP := cPushT h (by omega) hB x
  have HV : Hid (∃ v, v = (Value.agg (tnC x).toArray)) := hid ⟨_, rfl⟩
  obtain ⟨xv, hxv⟩ := HV.out
  rw [← hxv] at hP ⊢
  have m0 := mPush ⟨R, 5, none⟩
  clear h hh hl HV hxv
  go_enter Try.func35, Try.ntmps35
  go_upto_region 1 with (first
    | (go_at_call 58; refine hP.mono ?_; clear hP; rintro e w1 ⟨rfl, tv1, h1, ht1, hat1⟩; have HH1 := hid h1; have HT1 := hid ht1; have HAT := hid hat1; clear h1 ht1 hat1)
    | fail)
  rcases HH1.out.own.shape with ⟨_, hx⟩ | ⟨g, cap, htv1, hn, hm, hB2, hg, hR, hf⟩
  · exact absurd hx (by simp)
  clear hR hf hn hm hg hB2
  have ml := mLen HH1.out.cell
  obtain ⟨n, hn⟩ : ∃ n, n = l.length := ⟨_, rfl⟩
  have hlen : (l ++ [x]).length = n + 1 := by rw [List.length_append, List.length_singleton, hn]
  rw [hlen] at htv1
  subst htv1
  have hU := cUp (j := n) HH1.out hlen.symm (by have := HL.out; omega) (by omega) (by rw [hn]; exact up_start x HHP.out)
  have hC := cLen (tv := .slice (some ⟨g, 0, none⟩) (n + 1) cap) (w := w1) rfl
  have hnn : ((n : Int) + 1 - 1) = (n : Int) := by omega
  have hn9 : n ≤ 900000 := by have := HL.out; omega
  have hwr : IntKind.i64.wrap (n : Int) = n := by rw [IntKind.wrap_i64]; omega
  have HN := hid hn
  clear hn hlen
  go_wp2_with (first
    | (go_at_call 54; refine hC.mono ?_; rintro e w2 ⟨rfl, rfl⟩)
    | (go_at_call 36; refine hU.mono ?_; rintro e w2 ⟨rfl, l2, hp2, hh2, ho2, hg2⟩; have HP2 := hid hp2; have HH2 := hid hh2; have HO2 := hid ho2; have HG2 := hid hg2; clear hp2 hh2 ho2 hg2)
    | fail)
  go_end0
  refine ⟨rfl, .slice (some ⟨g, 0, none⟩) (n + 1) cap, l2, HP2.out.trans (List.perm_append_singleton _ _), ?_, HH1.out.next HO2.out HG2.out, HT1.out.next (Tch.ofGrown (S := fun k => k = g) HG2.out (fun k hk => by cases hk; rfl)) (fun i hi => ?_)⟩
  · rw [HP2.out.length_eq, List.length_append, List.length_singleton, ← HN.out]; exact HH2.out
  · subst hi
    rcases HAT.out with h | ⟨g2, h, h3⟩
    · exact .inl (.inr h.symm)
    · cases h; exact .inr h3
set_option maxHeartbeats 4000000 in
set_option maxRecDepth 100000 in
theorem cHPop {w : World} {B R n : Nat} {rc : Array Value} {tv : Value} {l : List Tn} (h : HpAt w B R rc tv l) (hh : HeapTo l (n + 1)) (hl : l.length = n + 1) (hl2 : n ≤ 900000) (hB : B ≤ w.heap.size) : Calls Try.prog 32 #[.iface 83 (.pointer (some ⟨R, 5, none⟩))] w fun e w' => e = .returned (.iface 81 (.agg (tnC (atT l 0)).toArray)) ∧ ∃ tv' l', l.Perm (atT l 0 :: l') ∧ HeapTo l' l'.length ∧ HpAt w' B R (rc.setIfInBounds 5 tv') tv' l' ∧ Tch (HpS R tv) w w' := by
  rcases h.own.shape with ⟨_, hx⟩ | ⟨g, cap, htv1, hn, hm, hB2, hg, hR, hf⟩
  · rw [hx] at hl; cases hl
  clear hR hf hn hm hg hB2
  rw [hl] at htv1
  subst htv1
  have HH := hid h
  have HHP := hid hh
  have HL := hid hl
  have HB := hid hB
  have ml := mLen h.cell
  have ms := mSwap h.cell
  have hC := cLen (tv := .slice (some ⟨g, 0, none⟩) (n + 1) cap) (w := w) rfl
  have hS := cSwap (i := 0) (j := n) h.own hl.symm (by omega) (by omega)
  have hnn : ((n : Int) + 1 - 1) = (n : Int) := by omega
  have hwr : IntKind.i64.wrap (n : Int) = n := by rw [IntKind.wrap_i64]; omega
  have HX : Hid (∃ x, x = atT l 0) := hid ⟨_, rfl⟩
  obtain ⟨x, hx⟩ := HX.out
  rw [← hx]
  have HXX := hid hx
  have HV : Hid (∃ v, v = (Value.agg (tnC x).toArray)) := hid ⟨_, rfl⟩
  obtain ⟨xv, hxv⟩ := HV.out
  rw [← hxv]
  have HXV := hid hxv
  clear h hh hl HX hx hB HV hxv
  go_enter Try.func32, Try.ntmps32
  go_upto_region 3 with (first
    | (go_at_call 54; refine hC.mono ?_; rintro e w2 ⟨rfl, rfl⟩)
    | (go_at_call 56; refine hS.mono ?_; clear hS; rintro e w1 ⟨rfl, ho1, hg1⟩; have HH1 := hid (HH.out.next ho1 hg1); have HG1 := hid hg1; clear ho1 hg1)
    | fail)
  have hD := cDown (m := n) HH1.out (by rw [swapL_len]; exact HL.out.symm) (by omega) (by omega) (down_start HHP.out HL.out)
  go_upto_region 4 with (first
    | (go_at_call 34; refine hD.mono ?_; clear hD; rintro e w2 ⟨⟨bb, rfl⟩, l2, hp2, hh2, hq2, ho2, hg2⟩; have HP2 := hid hp2; have HH2 := hid hh2; have HQ2 := hid hq2; have HO2 := hid (HH1.out.next ho2 hg2); have HG2 := hid hg2; clear hp2 hh2 hq2 ho2 hg2)
    | fail)
  have HLL2 : Hid (l2.length = n + 1) := hid (by rw [HP2.out.length_eq, swapL_len]; exact HL.out)
  have HAT : Hid (atT l2 n = x) := hid (by rw [HQ2.out n (Nat.le_refl _), atT_swap (by rw [HL.out]; omega) (by rw [HL.out]; omega), if_pos rfl]; exact HXX.out.symm)
  have hPP := cPopT HO2.out HLL2.out (by have := HB.out; have := HG1.out.size; have := HG2.out.size; omega)
  rw [HAT.out, ← HXV.out] at hPP
  have m0 := mPop ⟨R, 5, none⟩
  go_wp2_with (first
    | (go_at_call 57; refine hPP.mono ?_; clear hPP; rintro e w3 ⟨rfl, tv3, h3, ht3, hat3⟩; have HH3 := hid h3; have HT3 := hid ht3; have HAT3 := hid hat3; clear h3 ht3 hat3)
    | fail)
  go_ret
  refine ⟨rfl, tv3, l2.take n, perm_last (HP2.out.trans (swap_perm (by rw [HL.out]; omega) (by rw [HL.out]; omega))) HLL2.out HAT.out, ?_, HH3.out, ?_⟩
  · have : (l2.take n).length = n := by rw [List.length_take, HLL2.out]; omega
    rw [this]
    exact take_heap HH2.out (by rw [HLL2.out]; omega)
  · have t1 := Tch.ofGrown (S := HpS R (.slice (some ⟨g, 0, none⟩) (n + 1) cap)) HG1.out (fun k hk => .inr hk)
    have t2 := Tch.ofGrown (S := HpS R (.slice (some ⟨g, 0, none⟩) (n + 1) cap)) HG2.out (fun k hk => .inr hk)
    exact (t1.trans t2).trans HT3.out
end Go.Proofs.Ytmggggijamligaa
namespace Go.Proofs.Ytmggggijamligaa
set_option linter.unusedVariables false
open Go.RowKit
open Go.Lib (hid)
abbrev keyI (i : Int) : Lit := .int .i64 i
theorem keyI_ne {i j : Int} (h : i ≠ j) : keyI i ≠ keyI j := fun e => h (by cases e; rfl)
def optZ : Option Nat → Int
  | none => 0
  | some j => (j : Int)
def SaysF (D : DataW Value) (f : Int → Option Nat) : Prop := ∀ id, (∀ j, f id = some j → Maps.has D (keyI id) = true ∧ ∀ z, D.atKey (keyI id) z = .lit (.int .i64 (j : Int))) ∧ (f id = none → Maps.has D (keyI id) = false)
def Mf (w : World) (b n : Nat) (f : Int → Option Nat) : Prop := ∃ D : DataW Value, w.ownsMap Try.prog 3 (plainElem Try.prog 3) b n D ∧ SaysF D f
def SaysH (D : DataW Value) (S : List Int) : Prop := ∀ id, Maps.has D (keyI id) = hasI S id
def Mh (w : World) (b n : Nat) (S : List Int) : Prop := ∃ D : DataW Value, w.ownsMap Try.prog 3 unitElem b n D ∧ SaysH D S
theorem Mf.made (w : World) : Mf (w.alloc (.map #[] 0)) w.heap.size 0 (fun _ => none) := ⟨_, World.ownsMap_made w _ _ _, fun i => ⟨fun j h => (by cases h), fun _ => rfl⟩⟩
theorem Mh.made (w : World) : Mh (w.alloc (.map #[] 0)) w.heap.size 0 [] := ⟨_, World.ownsMap_made w _ _ _, fun i => rfl⟩
theorem Mf.blk {w : World} {b n : Nat} {f : Int → Option Nat} (h : Mf w b n f) : ∃ es clock, w.heap[b]? = some (.map es clock) := by obtain ⟨D, ⟨es, clock, hb, _⟩, _⟩ := h; exact ⟨es, clock, hb⟩
theorem Mh.blk {w : World} {b n : Nat} {S : List Int} (h : Mh w b n S) : ∃ es clock, w.heap[b]? = some (.map es clock) := by obtain ⟨D, ⟨es, clock, hb, _⟩, _⟩ := h; exact ⟨es, clock, hb⟩
theorem Mf.lt {w : World} {b n : Nat} {f : Int → Option Nat} (h : Mf w b n f) : b < w.heap.size := by obtain ⟨D, h, _⟩ := h; exact h.lt
theorem Mh.lt {w : World} {b n : Nat} {S : List Int} (h : Mh w b n S) : b < w.heap.size := by obtain ⟨D, h, _⟩ := h; exact h.lt
theorem Mf.same {w w' : World} {b n : Nat} {f : Int → Option Nat} (h : Mf w b n f) (hb : w'.heap[b]? = w.heap[b]?) : Mf w' b n f := by
  obtain ⟨D, ⟨es, clock, hbb, hrest⟩, hs⟩ := h
  exact ⟨D, ⟨es, clock, hb.trans hbb, hrest⟩, hs⟩
theorem Mh.same {w w' : World} {b n : Nat} {S : List Int} (h : Mh w b n S) (hb : w'.heap[b]? = w.heap[b]?) : Mh w' b n S := by
  obtain ⟨D, ⟨es, clock, hbb, hrest⟩, hs⟩ := h
  exact ⟨D, ⟨es, clock, hb.trans hbb, hrest⟩, hs⟩
theorem Mf.on {w w' : World} {b n : Nat} {f : Int → Option Nat} (h : Mf w b n f) (hb : Below w.heap.size w w') : Mf w' b n f := h.same (hb.block b h.lt)
theorem Mh.on {w w' : World} {b n : Nat} {S : List Int} (h : Mh w b n S) (hb : Below w.heap.size w w') : Mh w' b n S := h.same (hb.block b h.lt)
theorem SaysF.put {D : DataW Value} {f : Int → Option Nat} (h : SaysF D f) (hD : Maps.IsMap D) (x : Int) (j : Nat) : SaysF (D.put (keyI x) (.lit (.int .i64 (j : Int)))) (fun id => if id = x then some j else f id) := fun id => by
  by_cases hi : id = x
  · subst hi
    simp only [if_true]
    have hk : WideAt.IsKeyLit (keyI id) := trivial
    exact ⟨fun k hk2 => by cases hk2; exact ⟨Maps.has_put_same hD hk _, fun z => Maps.atKey_put_same hD hk _ z⟩, fun h => by cases h⟩
  · have hne := keyI_ne hi
    simp only [if_neg hi]
    refine ⟨fun k hk2 => ?_, fun hn => (Maps.has_put_other hne _).trans ((h id).2 hn)⟩
    obtain ⟨h1, h2⟩ := (h id).1 k hk2
    exact ⟨(Maps.has_put_other hne _).trans h1, fun z => (Maps.atKey_put_other hne _ z).trans (h2 z)⟩
theorem SaysH.put {D : DataW Value} {S : List Int} (h : SaysH D S) (hD : Maps.IsMap D) (x : Int) (d : DataW Value) : SaysH (D.put (keyI x) d) (S ++ [x]) := fun id => by
  rw [hasI_app]
  by_cases hi : id = x
  · subst hi
    have hk : WideAt.IsKeyLit (keyI id) := trivial
    rw [Maps.has_put_same hD hk]; simp
  · rw [Maps.has_put_other (keyI_ne hi), h id, decide_eq_false hi, Bool.or_false]
theorem own_isMapB {w : World} {P : Program} {k : TypeId} {R : Value → Option (DataW Value × List MemPlace)} {b n : Nat} {D : DataW Value} (h : w.ownsMap P k R b n D) : Maps.IsMap D := by
  obtain ⟨es, clock, _, _, _, rfl⟩ := h; exact ⟨_, rfl⟩
theorem wf0 : (Lit.int .i64 (0 : Int)).wf = true := by decide
theorem run_lookF {w : World} {b n : Nat} {f : Int → Option Nat} (h : Mf w b n f) {i : Int} (hw : wfI i) : Sem.run Try.prog (Instr.lookup 60 (.map (some b)) (.int .i64 i) false) w = .ok (.int .i64 (optZ (f i))) w := by
  obtain ⟨D, hD, hS⟩ := h
  obtain ⟨c, hrun, hat, _⟩ := hD.lookup_int (Maps.int_keyed Try.underlying3) Try.underlying60 Try.underlying3 (Try.zeroValue3 w) (key := .int .i64 i) (kl := keyI i) (Maps.keyOf_int_mk Try.underlying3 hw)
  rw [hrun]
  rcases hl : f i with _ | j
  · rw [Maps.atKey_of_not_has ((hS i).2 hl)] at hat
    cases hat; rfl
  · rw [((hS i).1 j hl).2] at hat
    cases hat; rfl
theorem run_lookF2 {w : World} {b n : Nat} {f : Int → Option Nat} (h : Mf w b n f) {i : Int} (hw : wfI i) : Sem.run Try.prog (Instr.lookup 60 (.map (some b)) (.int .i64 i) true) w = .ok (.tuple #[.int .i64 (optZ (f i)), .bool (f i).isSome]) w := by
  obtain ⟨D, hD, hS⟩ := h
  obtain ⟨v, ps, hrun, hv⟩ := hD.look_ok (Maps.int_keyed Try.underlying3) Try.underlying60 (Try.zeroValue3 w) (plainElem_int Try.underlying3 wf0) (key := .int .i64 i) (kl := keyI i) (Maps.keyOf_int_mk Try.underlying3 hw)
  rw [hrun]
  obtain ⟨c, rfl, hc, _⟩ := plainElem_int_inv Try.underlying3 hv
  have hc1 := (Prod.mk.inj hc).1
  rcases hl : f i with _ | j
  · rw [Maps.atKey_of_not_has ((hS i).2 hl)] at hc1
    rw [(hS i).2 hl]
    cases hc1; rfl
  · rw [((hS i).1 j hl).2] at hc1
    rw [((hS i).1 j hl).1]
    cases hc1; rfl
theorem run_lookH2 {w : World} {b n : Nat} {S : List Int} (h : Mh w b n S) {i : Int} (hw : wfI i) : Sem.run Try.prog (Instr.lookup 61 (.map (some b)) (.int .i64 i) true) w = .ok (.tuple #[.agg #[], .bool (hasI S i)]) w := by
  obtain ⟨D, hD, hS⟩ := h
  obtain ⟨v, ps, hrun, hv⟩ := hD.look_ok (Maps.int_keyed Try.underlying3) Try.underlying61 (Try.zeroValue77 w) unitElem_mk (key := .int .i64 i) (kl := keyI i) (Maps.keyOf_int_mk Try.underlying3 hw)
  rw [hrun]
  obtain ⟨rfl, _⟩ := unitElem_inv hv
  rw [hS i]
end Go.Proofs.Ytmggggijamligaa
