import Derived.Test.YtmggggijamligaaYEntZm
import Derived.Test.YtmggggijamligaaG16
namespace Go.Proofs.Ytmggggijamligaa
set_option linter.unusedVariables false
open Go.RowKit
open Go.Lib (hid)
theorem len_le : ∀ {a b : List Nat}, a.Nodup → (∀ x ∈ a, x ∈ b) → a.length ≤ b.length
  | [], b, _, _ => Nat.zero_le _
  | x :: a, b, hn, h => by
    have hn' := List.nodup_cons.1 hn
    have hx := h x (List.mem_cons_self ..)
    have h2 := len_le (a := a) (b := b.erase x) hn'.2 (fun y hy => (List.mem_erase_of_ne (fun e => hn'.1 (by rw [← e]; exact hy))).2 (h y (List.mem_cons_of_mem _ hy)))
    have h3 := List.length_erase_of_mem hx
    have h4 := List.length_pos_of_mem hx
    rw [List.length_cons]; omega
section
variable {n : Nat} {S : Nat → Int} {T : Nat → Nat} {l : List En} {ix : List Nat}
theorem told_nodup (h : GoodT n S T l ix) : (toldT l).Nodup := by
  unfold List.Nodup
  rw [List.pairwise_iff_getElem]
  intro p q hp hq hpq e
  refine told_new h (List.getElem?_eq_getElem hq) ?_
  rw [← e]
  exact List.mem_of_getElem? (i := p) (by rw [List.getElem?_take, if_pos hpq]; exact List.getElem?_eq_getElem hp)
theorem told_len (hT : ∀ i k, i < n → k < n → T i = T k → i = k) (h : GoodT n S T l (List.range n)) : (allF l []).length = n := by
  have e : (allF l []).length = (toldT l).length := by unfold toldT; rw [List.length_map]
  have h1 := len_le (told_nodup h) (told_sub h)
  have h2 := len_le (List.nodup_range (n := n)) (fun i hi => told_full hT h i (List.mem_range.1 hi))
  rw [List.length_range] at h1 h2
  omega
theorem none_waits (hT : ∀ i k, i < n → k < n → T i = T k → i = k) (h : GoodT n S T l (List.range n)) : waitsF l [] = [] := by
  unfold waitsF
  rw [List.nil_append]
  have key : ∀ k, waitsUp l (idsL (allF l [])) k = [] := by
    intro k
    induction k with
    | zero => rfl
    | succ k ih =>
      rcases hx : l[k]? with _ | x
      · have e : waitsUp l (idsL (allF l [])) (k + 1) = waitsUp l (idsL (allF l [])) k := by
          show (match l[k]? with | none => _ | some x => _) = _
          rw [hx]
        rw [e, ih]
      · obtain ⟨i, _, hix, hin, ho⟩ := h.get hx
        have hm := all_mem h (told_full hT h i hin)
        rw [waitsUp_succ hx, ih, if_neg]
        unfold waitB
        rw [ho.id, hm]
        simp
  exact key _
def toldS (S : Nat → Int) (l : List En) (s : Int) : List Nat := (toldT l).filter fun i => decide (S i = s)
theorem toldS_map (h : GoodT n S T l ix) (s : Int) : ofS s (allF l []) = (toldS S l s).map (cmdT S) := by
  rw [← told_map h]
  unfold ofS toldS
  rw [List.filter_map]
  rfl
theorem toldS_rise (hT : ∀ i k, i < n → k < n → T i = T k → i = k) (h : GoodT n S T l ix) (s : Int) : (toldS S l s).Pairwise fun a b => T a < T b := by
  unfold toldS
  have h1 := told_pair hT h
  rw [List.pairwise_filter]
  refine h1.imp ?_
  intro a b hab ha hb
  refine hab ?_
  rw [of_decide_eq_true ha, of_decide_eq_true hb]
theorem toldS_lt (h : GoodT n S T l ix) (s : Int) : ∀ i ∈ toldS S l s, i < n := fun i hi => h.lt _ (told_sub h i (List.mem_filter.1 hi).1)
theorem toldS_begins {lp : List En} (hT : ∀ i k, i < n → k < n → T i = T k → i = k) (h : GoodT n S T l (List.range n)) (hp : GoodT n S T lp ix) (s : Int) : toldS S lp s <+: toldS S l s := by
  refine begins (r := T) (toldS_rise hT h s) (toldS_rise hT hp s) (fun b hb => ?_) (fun b hb a ha hlt => ?_)
  · have hb' := List.mem_filter.1 hb
    exact List.mem_filter.2 ⟨told_full hT h b (hp.lt _ (told_sub hp b hb'.1)), hb'.2⟩
  · have hb' := List.mem_filter.1 hb
    have ha' := List.mem_filter.1 ha
    refine List.mem_filter.2 ⟨?_, ha'.2⟩
    obtain ⟨p, hpp⟩ := List.getElem?_of_mem hb'.1
    exact List.mem_of_mem_take (told_less hp hpp (h.lt _ (told_sub h a ha'.1)) (by rw [of_decide_eq_true ha'.2, of_decide_eq_true hb'.2]) hlt)
theorem few_begins {lp : List En} (hT : ∀ i k, i < n → k < n → T i = T k → i = k) (h : GoodT n S T l (List.range n)) (hp : GoodT n S T lp ix) (s : Int) : (ofS s (allF lp [])).length ≤ (ofS s (allF l [])).length ∧ (ofS s (allF l [])).take (ofS s (allF lp [])).length = ofS s (allF lp []) := by
  obtain ⟨t, ht⟩ := toldS_begins hT h hp s
  rw [toldS_map h, toldS_map hp, ← ht, List.map_append]
  refine ⟨by rw [List.length_append]; omega, ?_⟩
  rw [List.take_left]
structure PickT (l : List En) (k : Nat) (lp : List En) (ix : List Nat) : Prop where
  nd : ix.Nodup
  lt : ∀ i ∈ ix, i < k
  len : lp.length = ix.length
  ok : ∀ (j : Nat) (x : En) (i : Nat), lp[j]? = some x → ix[j]? = some i → l[i]? = some x
theorem PickT.none (l : List En) : PickT l 0 [] [] := ⟨List.nodup_nil, fun i h => by simp at h, rfl, fun j x i h => by simp at h⟩
theorem PickT.keep {k : Nat} {lp : List En} (h : PickT l k lp ix) : PickT l (k + 1) lp ix := ⟨h.nd, fun i hi => Nat.lt_succ_of_lt (h.lt i hi), h.len, h.ok⟩
theorem PickT.take {k : Nat} {lp : List En} {x : En} (h : PickT l k lp ix) (hx : l[k]? = some x) : PickT l (k + 1) (lp ++ [x]) (ix ++ [k]) := by
  refine ⟨?_, ?_, ?_, ?_⟩
  · rw [List.nodup_append]
    refine ⟨h.nd, by simp, fun a ha b hb e => ?_⟩
    rw [List.mem_singleton] at hb
    have := h.lt a ha
    omega
  · intro i hi
    rcases List.mem_append.1 hi with hi | hi
    · exact Nat.lt_succ_of_lt (h.lt i hi)
    · rw [List.mem_singleton] at hi; omega
  · rw [List.length_append, List.length_append, h.len]; rfl
  · intro j y i hy hi
    rcases Nat.lt_or_ge j lp.length with hj | hj
    · rw [List.getElem?_append_left hj] at hy
      rw [List.getElem?_append_left (by rw [← h.len]; exact hj)] at hi
      exact h.ok j y i hy hi
    · rw [List.getElem?_append_right hj] at hy
      rw [List.getElem?_append_right (by rw [← h.len]; exact hj)] at hi
      have hj0 : j - lp.length = 0 := by have := (List.getElem?_eq_some_iff.1 hy).1; simp at this; omega
      rw [← h.len] at hi
      rw [hj0] at hy hi
      obtain rfl := Option.some.inj hy
      obtain rfl := Option.some.inj hi
      exact hx
theorem PickT.len_le {k : Nat} {lp : List En} (h : PickT l k lp ix) : lp.length ≤ k := by
  rw [h.len, ← List.length_range (n := k)]
  exact Go.Proofs.Ytmggggijamligaa.len_le h.nd fun i hi => List.mem_range.2 (h.lt i hi)
theorem PickT.mem {k : Nat} {lp : List En} (h : PickT l k lp ix) : ∀ x ∈ lp, x ∈ l := fun x hx => by
  obtain ⟨j, hj⟩ := List.getElem?_of_mem hx
  have hjl := (List.getElem?_eq_some_iff.1 hj).1
  have hi : ix[j]? = some (ix[j]'(by rw [← h.len]; exact hjl)) := List.getElem?_eq_getElem _
  exact List.mem_of_getElem? (h.ok j x _ hj hi)
theorem PickT.good {lp : List En} (h : PickT l n lp ix) (hl : GoodT n S T l (List.range n)) : GoodT n S T lp ix :=
  ⟨h.len, fun j x i hx hi => hl.ok i x i (h.ok j x i hx hi) (by rw [List.getElem?_range (h.lt i (List.mem_of_getElem? hi))]), h.nd, h.lt⟩
end
theorem timT_inj {its : List It} (h : ∀ i k, i < its.length → k < i → timT its i ≠ timT its k) : ∀ i k, i < its.length → k < its.length → timT its i = timT its k → i = k := fun i k hi hk e => by
  rcases Nat.lt_trichotomy i k with h1 | h1 | h1
  · exact absurd e.symm (h k i hk h1)
  · exact h1
  · exact absurd e (h i k hi h1)
end Go.Proofs.Ytmggggijamligaa
