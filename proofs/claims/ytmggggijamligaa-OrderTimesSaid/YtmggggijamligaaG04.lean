import Derived.Test.YtmggggijamligaaG03
import Derived.Deep.MidRow
import Derived.BigRegion
import Derived.Maps.AppendAt
namespace Go.Proofs.Ytmggggijamligaa
set_option linter.unusedVariables false
open Go.RowKit
open Go.Lib (hid)
def cntP (l : List En) (h : List Int) (x : En) : Nat := x.v.countP fun c => !depB l h x.e.vt c
def cntO (l : List En) (had h : List Int) (i : Nat) (x : En) : Nat := if waitB l had i x then cntP l h x else 0
def cntI (l : List En) (had : List Int) (x : En) (id : Int) : Nat := x.v.countP fun c => decide (c.i = id) && !depB l had x.e.vt c
theorem ready_cnt (l : List En) (h : List Int) (i : Nat) (x : En) : readyB l h i x = (waitB l h i x && decide (cntP l h x = 0)) := by
  unfold readyB cntP
  congr 1
  rw [Bool.eq_iff_iff, decide_eq_true_eq, List.all_eq_true, List.countP_eq_zero]
  constructor
  · intro hh c hc; rw [hh c hc]; decide
  · intro hh c hc
    have := hh c hc
    simpa using this
theorem depB_app {l : List En} {h : List Int} {t id : Int} {c : C7} (hne : c.i ≠ id) : depB l (h ++ [id]) t c = depB l h t c := by
  unfold depB
  have : hasI (h ++ [id]) c.i = hasI h c.i := by
    unfold hasI
    rw [Bool.eq_iff_iff]
    simp [hne]
  rw [this]
theorem depB_same {l : List En} {h had : List Int} {t : Int} {c : C7} (he : hasI h c.i = hasI had c.i) : depB l h t c = depB l had t c := by
  unfold depB; rw [he]
theorem hasI_last (h : List Int) (id : Int) : hasI (h ++ [id]) id = true := by unfold hasI; simp
theorem depB_done {l : List En} {h : List Int} {t id : Int} {c : C7} {i : Nat} {y : En} (hf : findN l id = some i) (hy : l[i]? = some y) (hd : y.e.dn = true) (hc : c.i = id) : depB l (h ++ [id]) t c = true := by
  obtain ⟨z, hz, _, hz2⟩ := findN_some hf
  rw [hy] at hz
  obtain rfl := Option.some.inj hz
  unfold depB
  rw [hc, hz2, hasI_last]
  simp [hd]
theorem cnt_split {l : List En} {had h : List Int} {id : Int} {i : Nat} {y : En} (hf : findN l id = some i) (hy : l[i]? = some y) (hd : y.e.dn = true) (h0 : hasI h id = false) (h1 : hasI had id = false) (x : En) :
    cntP l h x = cntI l had x id + cntP l (h ++ [id]) x := by
  unfold cntP cntI
  generalize x.v = vs
  generalize x.e.vt = t
  induction vs with
  | nil => rfl
  | cons c vs ih =>
    rw [List.countP_cons, List.countP_cons, List.countP_cons, ih]
    by_cases hc : c.i = id
    · have e1 : depB l (h ++ [id]) t c = true := depB_done hf hy hd hc
      have e2 : depB l h t c = depB l had t c := depB_same (by rw [hc, h0, h1])
      rw [e1, e2]
      simp [hc]
      omega
    · rw [depB_app hc]
      simp [hc]
      omega
theorem cnt_le {l : List En} {had h : List Int} {id : Int} {i : Nat} {y : En} (hf : findN l id = some i) (hy : l[i]? = some y) (hd : y.e.dn = true) (h0 : hasI h id = false) (h1 : hasI had id = false) (x : En) : cntP l (h ++ [id]) x ≤ cntP l h x := by
  rw [cnt_split hf hy hd h0 h1 x]; omega
theorem wait_parts {l : List En} {h : List Int} {i : Nat} {x : En} : waitB l h i x = true ↔ x.e.dn = true ∧ hasI h x.id = false ∧ findN l x.id = some i := by
  unfold waitB
  simp [Bool.and_eq_true, and_assoc]
theorem hasI_app (h : List Int) (id j : Int) : hasI (h ++ [id]) j = (hasI h j || decide (j = id)) := by
  unfold hasI
  rw [Bool.eq_iff_iff]
  simp
def ToldOK (l : List En) (had h : List Int) : Prop := (∀ j, hasI had j = true → hasI h j = true) ∧ ∀ j x, l[j]? = some x → waitB l had j x = true → hasI h x.id = true → cntP l h x = 0
theorem told_start (l : List En) (had : List Int) : ToldOK l had had := ⟨fun _ h => h, fun j x hx hw hh => by
  rw [(wait_parts.1 hw).2.1] at hh; cases hh⟩
theorem told_next {l : List En} {had h : List Int} {i : Nat} {y : En} (hT : ToldOK l had h) (hy : l[i]? = some y) (hr : readyB l h i y = true) : ToldOK l had (h ++ [y.id]) := by
  have hr' := hr
  rw [ready_cnt, Bool.and_eq_true, decide_eq_true_eq] at hr
  obtain ⟨hw, hc⟩ := hr
  obtain ⟨hd, hn, hf⟩ := wait_parts.1 hw
  have hn0 : hasI had y.id = false := by
    rcases e : hasI had y.id with _ | _
    · rfl
    · rw [hT.1 _ e] at hn; cases hn
  refine ⟨fun j hj => by rw [hasI_app, hT.1 j hj]; rfl, fun j x hx hwx hh => ?_⟩
  have hle := cnt_le hf hy hd hn hn0 x
  rw [hasI_app] at hh
  rcases e : hasI h x.id with _ | _
  · rw [e] at hh
    have hxy : x.id = y.id := by simpa using hh
    have hfx := (wait_parts.1 hwx).2.2
    rw [hxy, hf] at hfx
    have hij := Option.some.inj hfx
    subst hij
    rw [hx] at hy
    obtain rfl := Option.some.inj hy
    omega
  · have := hT.2 j x hx hwx e
    omega
theorem next_up {l : List En} {h : List Int} {i : Nat} {x : En} (hx : l[i]? = some x) (hr : readyB l h i x = true) (hm : ∀ j y, l[j]? = some y → readyB l h j y = true → ltT (y.e.vt, j) (x.e.vt, i) = false) :
    ∀ k, (i < k → nextUp l h k = some i) ∧ (k ≤ i → ∀ j, nextUp l h k = some j → ∃ y, l[j]? = some y ∧ x.e.vt < y.e.vt) := by
  intro k
  induction k with
  | zero => exact ⟨fun hk => by omega, fun _ j hj => by cases hj⟩
  | succ k ih =>
    have hlen := (List.getElem?_eq_some_iff.1 hx).1
    by_cases hk : k < l.length
    · have hy : l[k]? = some l[k] := List.getElem?_eq_getElem hk
      rw [nextUp_succ hy]
      constructor
      · intro hik
        by_cases e : k = i
        · subst e
          rw [hy] at hx
          obtain rfl := Option.some.inj hx
          have hb : betterB l l[k] (nextUp l h k) = true := by
            rcases hn : nextUp l h k with _ | j
            · rfl
            · obtain ⟨y, hyj, hlt⟩ := ih.2 (Nat.le_refl _) j hn
              unfold betterB
              show (match l[j]? with | none => false | some y => _) = _
              rw [hyj]
              exact decide_eq_true hlt
          rw [hr, hb]; rfl
        · have h1 := ih.1 (by omega)
          rw [h1]
          have hno : (readyB l h k l[k] && betterB l l[k] (some i)) = false := by
            rcases hrk : readyB l h k l[k] with _ | _
            · rfl
            · have := hm k _ hy hrk
              rw [ltT_no] at this
              have hb : betterB l l[k] (some i) = decide (l[k].e.vt < x.e.vt) := by
                unfold betterB
                show (match l[i]? with | none => false | some y => _) = _
                rw [hx]
              rw [hb, Bool.true_and, decide_eq_false_iff_not]
              intro hlt
              exact this (.inl hlt)
          rw [hno]; rfl
      · intro hki j hj
        split at hj
        · rename_i hb
          cases hj
          have hrk := (Bool.and_eq_true _ _ ▸ hb : _ ∧ _).1
          have := hm k _ hy hrk
          rw [ltT_no] at this
          refine ⟨_, hy, ?_⟩
          have h2 : ¬ (l[k].e.vt < x.e.vt) := fun hlt => this (.inl hlt)
          have h3 : ¬ (l[k].e.vt = x.e.vt) := fun he => this (.inr ⟨he, by show k < i; omega⟩)
          omega
        · exact ih.2 (by omega) j hj
    · refine ⟨fun hik => ?_, fun hki => by omega⟩
      have hn : l[k]? = none := List.getElem?_eq_none (by omega)
      have e : nextUp l h (k + 1) = nextUp l h k := by
        show (match l[k]? with | none => _ | some x => _) = _
        rw [hn]
      rw [e]; exact ih.1 (by omega)
theorem next_min {l : List En} {h : List Int} {i : Nat} {x : En} (hx : l[i]? = some x) (hr : readyB l h i x = true) (hm : ∀ j y, l[j]? = some y → readyB l h j y = true → ltT (y.e.vt, j) (x.e.vt, i) = false) : nextN l h = some i :=
  (next_up hx hr hm l.length).1 (List.getElem?_eq_some_iff.1 hx).1
theorem next_none_up {l : List En} {h : List Int} : ∀ k, nextUp l h k = none → ∀ j x, j < k → l[j]? = some x → readyB l h j x = false := by
  intro k
  induction k with
  | zero => intro _ j x hj; omega
  | succ k ih =>
    intro hn j x hj hx
    rcases hy : l[k]? with _ | y
    · have : l.length ≤ k := List.getElem?_eq_none_iff.1 hy
      have := (List.getElem?_eq_some_iff.1 hx).1
      have e : nextUp l h (k + 1) = nextUp l h k := by
        show (match l[k]? with | none => _ | some x => _) = _
        rw [hy]
      exact ih (by rw [← e]; exact hn) j x (by omega) hx
    · rw [nextUp_succ hy] at hn
      split at hn
      · cases hn
      · rename_i hb
        rcases hj2 : decide (j = k) with _ | _
        · exact ih hn j x (by have := of_decide_eq_false hj2; omega) hx
        · have e := of_decide_eq_true hj2
          subst e
          rw [hy] at hx
          obtain rfl := Option.some.inj hx
          rw [hn] at hb
          have hbt : betterB l y none = true := rfl
          rw [hbt, Bool.and_true] at hb
          exact Bool.eq_false_iff.2 hb
theorem next_none {l : List En} {h : List Int} (hn : nextN l h = none) {j : Nat} {x : En} (hx : l[j]? = some x) : readyB l h j x = false := next_none_up l.length hn j x (List.getElem?_eq_some_iff.1 hx).1 hx
theorem next_of_none {l : List En} {h : List Int} (hn : ∀ j x, l[j]? = some x → readyB l h j x = false) : nextN l h = none := by
  rcases e : nextN l h with _ | i
  · rfl
  · obtain ⟨_, x, hx, hr⟩ := nextN_some e
    rw [hn i x hx] at hr; cases hr
theorem end_waits {l : List En} {had h : List Int} (hT : ToldOK l had h) (hn : nextN l h = none) {j : Nat} {x : En} (hx : l[j]? = some x) : waitB l h j x = decide (0 < cntO l had h j x) := by
  rw [Bool.eq_iff_iff, decide_eq_true_eq]
  constructor
  · intro hw
    obtain ⟨hd, hi, hf⟩ := wait_parts.1 hw
    have h0 : hasI had x.id = false := by
      rcases e : hasI had x.id with _ | _
      · rfl
      · rw [hT.1 _ e] at hi; cases hi
    have hr := next_none hn hx
    rw [ready_cnt, hw, Bool.true_and, decide_eq_false_iff_not] at hr
    unfold cntO
    rw [if_pos (wait_parts.2 ⟨hd, h0, hf⟩)]
    omega
  · intro hc
    unfold cntO at hc
    split at hc
    · rename_i hw
      obtain ⟨hd, _, hf⟩ := wait_parts.1 hw
      refine wait_parts.2 ⟨hd, ?_, hf⟩
      rcases e : hasI h x.id with _ | _
      · rfl
      · have := hT.2 j x hx hw e; omega
    · omega
end Go.Proofs.Ytmggggijamligaa
namespace Go.Proofs.Ytmggggijamligaa
set_option linter.unusedVariables false
open Go.RowKit
open Go.Lib (hid)
structure Tch (S : Nat → Prop) (w w' : World) : Prop where
  os : w'.os = w.os
  tape : w'.tape = w.tape
  output : w'.output = w.output
  size : w.heap.size ≤ w'.heap.size
  block : ∀ k, k < w.heap.size → ¬ S k → w'.heap[k]? = w.heap[k]?
theorem Tch.refl (S : Nat → Prop) (w : World) : Tch S w w := ⟨rfl, rfl, rfl, Nat.le_refl _, fun _ _ _ => rfl⟩
theorem Tch.trans {S : Nat → Prop} {a b c : World} (h : Tch S a b) (k : Tch S b c) : Tch S a c :=
  ⟨k.os.trans h.os, k.tape.trans h.tape, k.output.trans h.output, Nat.le_trans h.size k.size, fun i hi hn => (k.block i (Nat.lt_of_lt_of_le hi h.size) hn).trans (h.block i hi hn)⟩
theorem Tch.next {S S' : Nat → Prop} {a b c : World} (h : Tch S a b) (k : Tch S' b c) (hS : ∀ i, S' i → S i ∨ a.heap.size ≤ i) : Tch S a c :=
  ⟨k.os.trans h.os, k.tape.trans h.tape, k.output.trans h.output, Nat.le_trans h.size k.size, fun i hi hn => (k.block i (Nat.lt_of_lt_of_le hi h.size) (fun hs => by rcases hS i hs with h1 | h1; exact hn h1; omega)).trans (h.block i hi hn)⟩
theorem Tch.mono {S S' : Nat → Prop} {a b : World} (h : Tch S a b) (hS : ∀ k, S k → S' k) : Tch S' a b := ⟨h.os, h.tape, h.output, h.size, fun i hi hn => h.block i hi fun hs => hn (hS i hs)⟩
theorem Tch.ofBelow {S : Nat → Prop} {w w' : World} (h : Below w.heap.size w w') : Tch S w w' := ⟨h.1, h.2, h.3, h.4, fun k hk _ => h.5 k hk⟩
theorem Tch.ofGrown {S : Nat → Prop} {w w' : World} {row : Option Nat} (h : w.grownBy w' row) (hr : ∀ k, row = some k → S k) : Tch S w w' :=
  ⟨h.os, h.tape, h.output, h.size, fun k hk hn => h.block k hk fun e => hn (hr k e.symm)⟩
theorem Tch.below {S : Nat → Prop} {B : Nat} {w w' : World} (h : Tch S w w') (hS : ∀ k, S k → B ≤ k) (hB : B ≤ w.heap.size) : Below B w w' :=
  ⟨h.os, h.tape, h.output, h.size, fun k hk => h.block k (by omega) fun hs => by have := hS k hs; omega⟩
theorem Tch.ob {S : Nat → Prop} {w w' : World} (h : Tch S w w') {k : Nat} {o : Obj} (hk : w.heap[k]? = some o) (hS : ¬ S k) : w'.heap[k]? = some o := (h.block k (Array.getElem?_eq_some_iff.1 hk).1 hS).trans hk
theorem Tch.drew {S : Nat → Prop} {a b : World} (h : Tch S a b) : Tch S a b.drew := ⟨h.1, h.2, h.3, h.4, h.5⟩
theorem Tch.drewN {S : Nat → Prop} {a b : World} (h : Tch S a b) (n : Nat) : Tch S a (b.drewN n) := ⟨h.1, h.2, h.3, h.4, h.5⟩
theorem own_tch {S : Nat → Prop} {w w' : World} {B n size : Nat} {e : TypeId} {v : Value} {xs : List Value} (h : w.ownsRow B e size v n xs) (ht : Tch S w w') (hv : ∀ k, v.ownBlock = some k → ¬ S k) : w'.ownsRow B e size v n xs := by
  refine ⟨h.1, ?_⟩
  rcases h.2 with h2 | ⟨g, cap, cur, rfl, h1, hg, r⟩
  · exact .inl h2
  · exact .inr ⟨g, cap, cur, rfl, h1, ht.ob hg (hv g rfl), r⟩
theorem Try.infoT : (Try.prog.info? 81).map (fun i => (i.zero, i.size, i.bytes)) = some (some (.agg #[.int .i64 0, .int .i64 0]), 2, 16) := by kernel_rfl
def tnC (x : Tn) : List Value := [.int .i64 x.1, .int .i64 (x.2 : Int)]
theorem kT : ∀ x : Tn, (tnC x).length = 2 := fun _ => rfl
theorem oneT (x : Tn) : ∀ u ∈ tnC x, u.oneCell' = true := fun u hu => by
  simp [tnC] at hu; rcases hu with rfl | rfl <;> rfl
abbrev OwnT (w : World) (B : Nat) (v : Value) (l : List Tn) : Prop := OwnG tnC 2 81 w B v l
def TnR (w : World) (g : Nat) (l : List Tn) : Prop := ∀ (j : Nat) x, l[j]? = some x → w.cell? ⟨g, j * 2, none⟩ = some (.int .i64 x.1) ∧ w.cell? ⟨g, j * 2 + 1, none⟩ = some (.int .i64 (x.2 : Int))
theorem OwnT.shape {w : World} {B : Nat} {v : Value} {l : List Tn} (h : OwnT w B v l) :
    (v = .slice none 0 0 ∧ l = []) ∨ ∃ g cap, v = .slice (some ⟨g, 0, none⟩) l.length cap ∧ l.length ≤ cap ∧ cap ≤ maxLen ∧ B ≤ g ∧ g < w.heap.size ∧ TnR w g l ∧ ∀ j, w.frozen? ⟨g, j, none⟩ = false := by
  have hl := h.lt
  have h1 := h
  have hcl := fun g (hg : v.ownBlock = some g) => h.cells hg
  rcases h.2 with ⟨rfl, h0⟩ | ⟨g, cap, cur, rfl, hb, hg, hn, hm, hs, ht⟩
  · exact .inl ⟨rfl, List.length_eq_zero_iff.1 h0⟩
  · refine .inr ⟨g, cap, rfl, hn, hm, hb, (hl g rfl).2, fun j o hj => ?_, fun j => h1.frozenAt j⟩
    have hat := fun f u hu => hcl g rfl _ _ (flatG_at kT l j o hj f u hu)
    simp only [addr_add] at hat
    exact ⟨hat 0 _ rfl, hat 1 _ rfl⟩
theorem flatT_set : ∀ (l : List Tn) (i : Nat) (x : Tn), i < l.length → flatG tnC (l.set i x) = ((flatG tnC l).set (i * 2) (.int .i64 x.1)).set (i * 2 + 1) (.int .i64 (x.2 : Int))
  | a :: l, 0, x, _ => rfl
  | a :: l, i + 1, x, h => by
    have ih := flatT_set l i x (by simpa using h)
    rw [List.set_cons_succ, flatG_cons, flatG_cons, ih, show (i + 1) * 2 = i * 2 + 1 + 1 by omega]
    rfl
theorem row_setT {w : World} {B g n cap : Nat} {l : List Tn} (h : OwnT w B (.slice (some ⟨g, 0, none⟩) n cap) l) {k : Nat} (hk : k < l.length) (x : Tn) :
    OwnT ((w.setCell ⟨g, k * 2, none⟩ (.int .i64 x.1)).setCell ⟨g, k * 2 + 1, none⟩ (.int .i64 (x.2 : Int))) B (.slice (some ⟨g, 0, none⟩) n cap) (l.set k x) := by
  have hn : n = l.length := by
    obtain ⟨_, _, _, e, hn⟩ := h.asSlice
    injection e with _ e2 _
    rw [e2, hn]
  subst hn
  have h1 := (World.ownsRow.stored h (k * 2) (.int .i64 x.1)).1
  have h2 := (World.ownsRow.stored h1 (k * 2 + 1) (.int .i64 (x.2 : Int))).1
  rw [← flatT_set l k x hk] at h2
  show World.ownsRow _ _ _ _ _ _ _
  rw [List.length_set]
  exact h2
theorem mLen {W : World} {R : Nat} {tv : Value} (h : W.cell? ⟨R, 5, none⟩ = some tv) : (method 209 83 (.pointer (some ⟨R, 5, none⟩)) "Len").run Try.prog W = .ok (54, tv) W := by
  have e : (method 209 83 (.pointer (some ⟨R, 5, none⟩)) "Len").run Try.prog W = ((do let v ← load ⟨R, 5, none⟩; pure (54, v) : Sem (FuncId × Value))).run Try.prog W := by kernel_rfl
  rw [e]
  simp [h]
end Go.Proofs.Ytmggggijamligaa
namespace Go.Proofs.Ytmggggijamligaa
set_option linter.unusedVariables false
open Go.RowKit
open Go.Lib (hid)
theorem cLen {tv : Value} {n : Nat} {g : Option Addr} {cap : Nat} {w : World} (hv : tv = .slice g n cap) : Calls Try.prog 54 #[tv] w fun e w' => e = .returned (.int .i64 n) ∧ w' = w := by
  subst hv
  go_enter Try.func54, Try.ntmps54
  go_wp2_with fail
  go_ret
  exact ⟨rfl, rfl⟩
set_option maxHeartbeats 4000000 in
set_option maxRecDepth 100000 in
theorem cLess {w : World} {g n cap : Nat} {l : List Tn} (hR : TnR w g l) (hn : n = l.length) {i j : Nat} (hi : i < l.length) (hj : j < l.length) : Calls Try.prog 55 #[.slice (some ⟨g, 0, none⟩) n cap, .int .i64 i, .int .i64 j] w fun e w' => e = .returned (.bool (ltT (atT l i) (atT l j))) ∧ Below w.heap.size w w' := by
  obtain ⟨a0, a1⟩ := hR i _ (atT_some hi)
  obtain ⟨b0, b1⟩ := hR j _ (atT_some hj)
  rw [← hn] at hi hj
  obtain ⟨a, ha⟩ : ∃ a, a = atT l i := ⟨_, rfl⟩
  obtain ⟨b, hb⟩ : ∃ b, b = atT l j := ⟨_, rfl⟩
  rw [← ha] at a0 a1 ⊢
  rw [← hb] at b0 b1 ⊢
  clear hR ha hb hn
  obtain ⟨at', ap⟩ := a
  obtain ⟨bt, bp⟩ := b
  have hii : ((i : Int) < n) := by omega
  have hjj : ((j : Int) < n) := by omega
  dsimp only at a0 a1 b0 b1
  go_enter Try.func55, Try.ntmps55
  by_cases e : at' = bt
  · subst e
    have hne : (at' != at') = false := by simp
    have e2 : ltT (at', ap) (at', bp) = decide (ap < bp) := by unfold ltT; simp
    go_wp2_with fail
    go_quiet (fail)
    go_wp2_with fail
    go_quiet (fail)
    go_wp2_with fail
    go_ret
    exact ⟨by rw [e2]; rfl, Below.drewN' (Below.drewN' (Below.refl _ _) _) _⟩
  · have hne : (at' != bt) = true := by simpa using e
    have e2 : ltT (at', ap) (bt, bp) = decide (at' < bt) := by unfold ltT; simp [e]
    go_wp2_with fail
    go_quiet (fail)
    go_wp2_with fail
    go_quiet (fail)
    go_wp2_with fail
    go_ret
    exact ⟨by rw [e2]; rfl, Below.drewN' (Below.drewN' (Below.refl _ _) _) _⟩
set_option maxHeartbeats 4000000 in
set_option maxRecDepth 100000 in
theorem cSwap {w : World} {B g n cap : Nat} {l : List Tn} (hO : OwnT w B (.slice (some ⟨g, 0, none⟩) n cap) l) (hn : n = l.length) {i j : Nat} (hi : i < l.length) (hj : j < l.length) : Calls Try.prog 56 #[.slice (some ⟨g, 0, none⟩) n cap, .int .i64 i, .int .i64 j] w fun e w' => e = .returned (.tuple #[]) ∧ OwnT w' B (.slice (some ⟨g, 0, none⟩) n cap) (swapL l i j) ∧ w.grownBy w' (some g) := by
  have hsh := hO.shape
  rcases hsh with ⟨hx, _⟩ | ⟨g', cap', hx, _, _, hB, hg, hR, hf⟩
  · cases hx
  have hgg : g = g' := by injection hx with h1 _ _; injection h1 with h1; injection h1
  subst hgg
  obtain ⟨a0, a1⟩ := hR i _ (atT_some hi)
  obtain ⟨b0, b1⟩ := hR j _ (atT_some hj)
  obtain ⟨a, ha⟩ : ∃ a, a = atT l i := ⟨_, rfl⟩
  obtain ⟨b, hb⟩ : ∃ b, b = atT l j := ⟨_, rfl⟩
  rw [← ha] at a0 a1
  rw [← hb] at b0 b1
  have HE : Hid (swapL l i j = (l.set i b).set j a) := hid (by unfold swapL; rw [ha, hb])
  have HO := hid hO
  have HL : Hid (i < l.length ∧ j < l.length) := hid ⟨hi, hj⟩
  have hii : ((i : Int) < n) := by omega
  have hjj : ((j : Int) < n) := by omega
  have f0 := hf (i * 2)
  have f1 := hf (i * 2 + 1)
  have f2 := hf (j * 2)
  have f3 := hf (j * 2 + 1)
  obtain ⟨at', ap⟩ := a
  obtain ⟨bt, bp⟩ := b
  dsimp only at a0 a1 b0 b1
  have c1 : (w.setCell ⟨g, i * 2, none⟩ (.int .i64 bt)).cell? ⟨g, j * 2, none⟩ = some (.int .i64 bt) := by
    by_cases e : i = j
    · subst e; exact World.cell?_setCell_same _ _ _ a0
    · rw [World.cell?_setCell_other _ _ _ _ (fun h => by injection h; omega)]; exact b0
  have c2 : ((w.setCell ⟨g, i * 2, none⟩ (.int .i64 bt)).setCell ⟨g, i * 2 + 1, none⟩ (.int .i64 (bp : Int))).cell? ⟨g, j * 2 + 1, none⟩ = some (.int .i64 (bp : Int)) := by
    by_cases e : i = j
    · subst e; exact World.cell?_setCell_same _ _ _ ((World.cell?_setCell_other _ _ _ _ (fun h => by injection h; omega)).trans a1)
    · rw [World.cell?_setCell_other _ _ _ _ (fun h => by injection h; omega), World.cell?_setCell_other _ _ _ _ (fun h => by injection h; omega)]; exact b1
  clear hR hf hO ha hb hn hx hi hj
  go_enter Try.func56, Try.ntmps56
  go_region
  go_end0
  have r1 := row_setT HO.out HL.out.1 (bt, bp)
  have r2 := row_setT r1 (by rw [List.length_set]; exact HL.out.2) (at', ap)
  rw [← HE.out] at r2
  exact ⟨rfl, r2, grownDrew (grownTrans (grownTrans (grownTrans (grownSet _ _ _) (grownSet _ _ _)) (grownSet _ _ _)) (grownSet _ _ _))⟩
end Go.Proofs.Ytmggggijamligaa
namespace Go.Proofs.Ytmggggijamligaa
set_option linter.unusedVariables false
open Go.RowKit
open Go.Lib (hid)
structure HpAt (W : World) (B R : Nat) (rc : Array Value) (tv : Value) (tu : List Tn) : Prop where
  blk : W.heap[R]? = some (.cells rc 73 (0, 0))
  at5 : rc[5]? = some tv
  own : OwnT W B tv tu
theorem HpAt.cell {W : World} {B R : Nat} {rc : Array Value} {tv : Value} {tu : List Tn} (h : HpAt W B R rc tv tu) : W.cell? ⟨R, 5, none⟩ = some tv := by
  rw [cell_of_row W R 5 rc _ _ h.blk]; exact h.at5
theorem HpAt.apart {W : World} {B R : Nat} {rc : Array Value} {tv : Value} {tu : List Tn} (h : HpAt W B R rc tv tu) : ∀ g, tv.ownBlock = some g → R ≠ g := fun g hg e => by
  subst e
  rcases h.own.2 with ⟨e1, _⟩ | ⟨g', cap', cur', e1, _, hg', _⟩
  · rw [e1] at hg; cases hg
  · rw [e1] at hg; cases hg
    rw [h.blk] at hg'
    injection hg' with hg'
    injection hg' with _ e2
    exact absurd e2 (by decide)
theorem HpAt.next {W W' : World} {B R : Nat} {rc : Array Value} {tv : Value} {tu tu' : List Tn} (h : HpAt W B R rc tv tu) (ho : OwnT W' B tv tu') (hg : W.grownBy W' tv.ownBlock) : HpAt W' B R rc tv tu' :=
  ⟨(hg.block R (Array.getElem?_eq_some_iff.1 h.blk).1 (fun e => h.apart _ e.symm rfl)).trans h.blk, h.at5, ho⟩
theorem mLess {W : World} {R : Nat} {tv : Value} (h : W.cell? ⟨R, 5, none⟩ = some tv) : (method 209 83 (.pointer (some ⟨R, 5, none⟩)) "Less").run Try.prog W = .ok (55, tv) W := by
  have e : (method 209 83 (.pointer (some ⟨R, 5, none⟩)) "Less").run Try.prog W = ((do let v ← load ⟨R, 5, none⟩; pure (55, v) : Sem (FuncId × Value))).run Try.prog W := by kernel_rfl
  rw [e]
  simp [h]
theorem mSwap {W : World} {R : Nat} {tv : Value} (h : W.cell? ⟨R, 5, none⟩ = some tv) : (method 209 83 (.pointer (some ⟨R, 5, none⟩)) "Swap").run Try.prog W = .ok (56, tv) W := by
  have e : (method 209 83 (.pointer (some ⟨R, 5, none⟩)) "Swap").run Try.prog W = ((do let v ← load ⟨R, 5, none⟩; pure (56, v) : Sem (FuncId × Value))).run Try.prog W := by kernel_rfl
  rw [e]
  simp [h]
theorem mPush (a : Addr) (W : World) : (method 209 83 (.pointer (some a)) "Push").run Try.prog W = .ok (58, .pointer (some a)) W := by kernel_rfl
theorem mPop (a : Addr) (W : World) : (method 209 83 (.pointer (some a)) "Pop").run Try.prog W = .ok (57, .pointer (some a)) W := by kernel_rfl
set_option maxHeartbeats 4000000 in
set_option maxRecDepth 100000 in
theorem cUp {w : World} {B R g cap n : Nat} {rc : Array Value} {l : List Tn} (h : HpAt w B R rc (.slice (some ⟨g, 0, none⟩) n cap) l) (hn : n = l.length) (hl : n ≤ 1000000) {j : Nat} (hj : j < n) (hu : UpInv l n j) : Calls Try.prog 36 #[.iface 83 (.pointer (some ⟨R, 5, none⟩)), .int .i64 j] w fun e w' => e = .returned (.tuple #[]) ∧ ∃ l', l'.Perm l ∧ HeapTo l' n ∧ OwnT w' B (.slice (some ⟨g, 0, none⟩) n cap) l' ∧ w.grownBy w' (some g) := by
  have HH := hid h
  have HU := hid hu
  have HN := hid hn
  clear h hu hn
  go_enter Try.func36, Try.ntmps36
  go_wp2_with fail
  go_loopw [1] (fun s1 wr => ∃ (k : Nat) (L : List Tn), k < n ∧ s1 = .int .i64 k ∧ Hid (L.Perm l) ∧ Hid (L.length = n) ∧ Hid (UpInv L n k) ∧ Hid (HpAt wr B R rc (.slice (some ⟨g, 0, none⟩) n cap) L) ∧ Hid (w.grownBy wr (some g))) (fun s1 _ => (RowKit.intOf s1).toNat)
  case atStart => exact ⟨j, l, hj, rfl, hid (List.Perm.refl _), hid HN.out.symm, HU, HH, hid (grownRefl _ _)⟩
  case round =>
    obtain ⟨k, L, hk, rfl, HP, HLN, HI, HA, HG⟩ := hrel
    have hcell := HA.out.cell
    have m1 := mLess hcell
    rcases Nat.eq_zero_or_pos k with hk0 | hk0
    · subst hk0
      go_wp2_with fail
      go_end0
      exact ⟨rfl, L, HP.out, up_stop0 HI.out, HA.out.own, HG.out⟩
    · obtain ⟨i, hi⟩ : ∃ i, i = (k - 1) / 2 := ⟨_, rfl⟩
      have hik : i < k := by omega
      have hne : ((i : Int) == (k : Int)) = false := by simp; omega
      have hq : ((k : Int) - 1) / 2 = (i : Int) := by omega
      obtain ⟨r, hr⟩ : ∃ r, r = ltT (atT L k) (atT L i) := ⟨_, rfl⟩
      have hsh := HA.out.own.shape
      rcases hsh with ⟨hx, _⟩ | ⟨g', cap', hx, _, _, hB, hg, hR, hf⟩
      · cases hx
      have hgg : g = g' := by injection hx with h1 _ _; injection h1 with h1; injection h1
      subst hgg
      have hC := cLess (cap := cap) hR HLN.out.symm (i := k) (j := i) (by rw [HLN.out]; omega) (by rw [HLN.out]; omega)
      rw [← hr] at hC
      have HR := hid hr
      have HIK := hid hi
      clear hR hf hx hr hi
      rcases r with _ | _
      · go_wp2_with (first
          | (go_at_call 55; refine hC.mono ?_; clear hC; rintro e w1 ⟨rfl, hB1⟩; have HB1 := hid hB1; clear hB1)
          | fail)
        go_end0
        exact ⟨rfl, L, HP.out, up_stop HI.out (by rw [← HIK.out]; exact HR.out.symm), HA.out.own.on HB1.out, grownTrans HG.out (grownBelow HB1.out _)⟩
      · have HLT : Hid (i < L.length ∧ k < L.length) := hid (by rw [HLN.out]; omega)
        go_wp2_with (first
          | (go_at_call 55; refine hC.mono ?_; clear hC; rintro e w1 ⟨rfl, hB1⟩; have HA1 := hid (HA.out.next (HA.out.own.on hB1) (grownBelow hB1 _)); have HB1 := hid hB1; clear hB1; have m2 := mSwap HA1.out.cell)
          | (go_at_call 56; refine (cSwap HA1.out.own HLN.out.symm HLT.out.1 HLT.out.2).mono ?_; rintro e w2 ⟨rfl, hO2, hG2⟩; have HO2 := hid hO2; have HG2 := hid hG2; clear hO2 hG2)
          | fail)
        go_roundw
        case rel => exact ⟨i, swapL L i k, by omega, rfl, hid ((swap_perm HLT.out.1 HLT.out.2).trans HP.out), hid (by rw [swapL_len]; exact HLN.out), hid (by have := up_next HI.out hk0 hk (by rw [HLN.out]; exact Nat.le_refl _) (by rw [← HIK.out]; exact HR.out.symm); rw [← HIK.out] at this; exact this), hid (HA1.out.next HO2.out HG2.out), hid (grownTrans HG.out (grownTrans (grownBelow HB1.out _) HG2.out))⟩
        case measure => first | omega | (simp [RowKit.intOf]; omega)
end Go.Proofs.Ytmggggijamligaa
