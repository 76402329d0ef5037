import Derived.Test.YtmggggijamligaaRows
import Derived.Test.YtmggggijamligaaG05
import Derived.Deep.MidRow
import Derived.BigRegion
import Derived.Maps.AppendAt
namespace Go.Proofs.Ytmggggijamligaa
set_option linter.unusedVariables false
abbrev Tn : Type := Int × Nat
def ltT (a b : Tn) : Bool := if a.1 = b.1 then decide (a.2 < b.2) else decide (a.1 < b.1)
theorem ltT_yes {a b : Tn} : ltT a b = true ↔ (a.1 < b.1 ∨ (a.1 = b.1 ∧ a.2 < b.2)) := by
  unfold ltT
  split
  · rename_i h; simp only [decide_eq_true_eq]; constructor
    · intro h2; exact .inr ⟨h, h2⟩
    · rintro (h2 | ⟨_, h2⟩)
      · omega
      · exact h2
  · rename_i h; simp only [decide_eq_true_eq]; constructor
    · intro h2; exact .inl h2
    · rintro (h2 | ⟨h2, _⟩)
      · exact h2
      · exact absurd h2 h
theorem ltT_no {a b : Tn} : ltT a b = false ↔ ¬ (a.1 < b.1 ∨ (a.1 = b.1 ∧ a.2 < b.2)) := by
  rw [← ltT_yes]; exact (Bool.not_eq_true _).symm ▸ Iff.rfl
def atT (l : List Tn) (i : Nat) : Tn := l[i]?.getD (0, 0)
theorem atT_some {l : List Tn} {i : Nat} (h : i < l.length) : l[i]? = some (atT l i) := by
  unfold atT; rw [List.getElem?_eq_getElem h]; rfl
theorem atT_of {l : List Tn} {i : Nat} {x : Tn} (h : l[i]? = some x) : atT l i = x := by unfold atT; rw [h]; rfl
def swapL (l : List Tn) (i j : Nat) : List Tn := (l.set i (atT l j)).set j (atT l i)
theorem swapL_len (l : List Tn) (i j : Nat) : (swapL l i j).length = l.length := by unfold swapL; rw [List.length_set, List.length_set]
theorem atT_set {l : List Tn} {i : Nat} (hi : i < l.length) (x : Tn) (k : Nat) : atT (l.set i x) k = if k = i then x else atT l k := by
  unfold atT
  by_cases h : k = i
  · subst h; rw [if_pos rfl, List.getElem?_set_self hi]; rfl
  · rw [if_neg h, List.getElem?_set_ne (Ne.symm h)]
theorem atT_swap {l : List Tn} {i j : Nat} (hi : i < l.length) (hj : j < l.length) (k : Nat) : atT (swapL l i j) k = if k = j then atT l i else if k = i then atT l j else atT l k := by
  unfold swapL
  rw [atT_set (by rw [List.length_set]; exact hj), atT_set hi]
theorem swap_perm {l : List Tn} {i j : Nat} (hi : i < l.length) (hj : j < l.length) : (swapL l i j).Perm l := by
  have h := Array.swap_perm (xs := l.toArray) (i := i) (j := j) (by simpa using hi) (by simpa using hj)
  have h2 := Array.perm_iff_toList_perm.1 h
  have e : (l.toArray.swap i j (by simpa using hi) (by simpa using hj)).toList = swapL l i j := by
    rw [Array.swap_def]
    unfold swapL
    have ei : atT l i = l[i] := by unfold atT; rw [List.getElem?_eq_getElem hi]; rfl
    have ej : atT l j = l[j] := by unfold atT; rw [List.getElem?_eq_getElem hj]; rfl
    simp [ei, ej]
  rw [e] at h2
  exact h2
def HeapTo (l : List Tn) (n : Nat) : Prop := ∀ j, 0 < j → j < n → ltT (atT l j) (atT l ((j - 1) / 2)) = false
def UpInv (l : List Tn) (n k : Nat) : Prop := (∀ j, 0 < j → j < n → j ≠ k → ltT (atT l j) (atT l ((j - 1) / 2)) = false) ∧ ∀ j, 0 < j → j < n → 0 < k → (j - 1) / 2 = k → ltT (atT l j) (atT l ((k - 1) / 2)) = false
def DownInv (l : List Tn) (n k : Nat) : Prop := (∀ j, 0 < j → j < n → (j - 1) / 2 ≠ k → ltT (atT l j) (atT l ((j - 1) / 2)) = false) ∧ ∀ j, 0 < j → j < n → 0 < k → (j - 1) / 2 = k → ltT (atT l j) (atT l ((k - 1) / 2)) = false
theorem lt_asym {a b : Tn} (h : ltT a b = true) : ltT b a = false := by
  rw [ltT_yes] at h; rw [ltT_no]; omega
theorem lt_mid {a b c : Tn} (h : ltT a c = false) (h2 : ltT b c = true) : ltT a b = false := by
  rw [ltT_no] at h; rw [ltT_yes] at h2; rw [ltT_no]; omega
theorem lt_negtr {a b c : Tn} (h : ltT a b = false) (h2 : ltT b c = false) : ltT a c = false := by
  rw [ltT_no] at h h2; rw [ltT_no]; omega
theorem up_stop0 {l : List Tn} {n : Nat} (h : UpInv l n 0) : HeapTo l n := fun j h0 hn => h.1 j h0 hn (by omega)
theorem up_stop {l : List Tn} {n k : Nat} (h : UpInv l n k) (hl : ltT (atT l k) (atT l ((k - 1) / 2)) = false) : HeapTo l n := fun j h0 hn => by
  by_cases e : j = k
  · subst e; exact hl
  · exact h.1 j h0 hn e
theorem up_next {l : List Tn} {n k : Nat} (h : UpInv l n k) (hk : 0 < k) (hkn : k < n) (hn : n ≤ l.length) (hl : ltT (atT l k) (atT l ((k - 1) / 2)) = true) : UpInv (swapL l ((k - 1) / 2) k) n ((k - 1) / 2) := by
  obtain ⟨i, hi⟩ : ∃ i, i = (k - 1) / 2 := ⟨_, rfl⟩
  rw [← hi] at hl ⊢
  have hik : i < k := by omega
  have A := fun m => atT_swap (l := l) (i := i) (j := k) (by omega) (by omega) m
  constructor
  · intro j h0 hj hji
    rw [A, A]
    by_cases hjk : j = k
    · rw [if_pos hjk, ← (show i = (j - 1) / 2 by rw [hjk]; exact hi), if_neg (by omega), if_pos rfl]
      exact lt_asym hl
    · rw [if_neg hjk, if_neg hji]
      by_cases hq : (j - 1) / 2 = k
      · rw [if_pos hq]
        have := h.2 j h0 hj hk hq
        rwa [← hi] at this
      · rw [if_neg hq]
        have h1 := h.1 j h0 hj hjk
        by_cases hq2 : (j - 1) / 2 = i
        · rw [if_pos hq2]
          rw [hq2] at h1
          exact lt_mid h1 hl
        · rw [if_neg hq2]; exact h1
  · intro j h0 hj hi0 hq
    rw [A, A]
    have hp := h.1 i hi0 (by omega) (by omega)
    rw [if_neg (show ¬ (i - 1) / 2 = k by omega), if_neg (show ¬ (i - 1) / 2 = i by omega)]
    by_cases hjk : j = k
    · rw [if_pos hjk]; exact hp
    · rw [if_neg hjk, if_neg (show ¬ j = i by omega)]
      have h1 := h.1 j h0 hj hjk
      rw [hq] at h1
      exact lt_negtr h1 hp
theorem up_start {l : List Tn} (x : Tn) (h : HeapTo l l.length) : UpInv (l ++ [x]) (l.length + 1) l.length := by
  have A : ∀ m, m < l.length → atT (l ++ [x]) m = atT l m := fun m hm => by unfold atT; rw [List.getElem?_append_left hm]
  constructor
  · intro j h0 hj hjl
    rw [A j (by omega), A _ (by omega)]
    exact h j h0 (by omega)
  · intro j h0 hj hk hq
    omega
theorem down_stop0 {l : List Tn} {n k : Nat} (h : DownInv l n k) (hk : n ≤ 2 * k + 1) : HeapTo l n := fun j h0 hn => h.1 j h0 hn (by omega)
theorem down_stop {l : List Tn} {n k c : Nat} (h : DownInv l n k) (hc : c = 2 * k + 1 ∨ c = 2 * k + 2) (ho : ∀ d, d < n → (d = 2 * k + 1 ∨ d = 2 * k + 2) → ltT (atT l d) (atT l c) = false) (hl : ltT (atT l c) (atT l k) = false) : HeapTo l n := fun j h0 hn => by
  by_cases e : (j - 1) / 2 = k
  · rw [e]; exact lt_negtr (ho j hn (by omega)) hl
  · exact h.1 j h0 hn e
theorem down_next {l : List Tn} {n k c : Nat} (h : DownInv l n k) (hc : c = 2 * k + 1 ∨ c = 2 * k + 2) (hcn : c < n) (hn : n ≤ l.length) (ho : ∀ d, d < n → (d = 2 * k + 1 ∨ d = 2 * k + 2) → ltT (atT l d) (atT l c) = false) (hl : ltT (atT l c) (atT l k) = true) : DownInv (swapL l k c) n c := by
  have A := fun m => atT_swap (l := l) (i := k) (j := c) (by omega) (by omega) m
  have hck : (c - 1) / 2 = k := by omega
  constructor
  · intro j h0 hj hjc
    rw [A, A]
    rw [if_neg hjc]
    by_cases hj1 : j = c
    · rw [if_pos hj1, hj1, hck, if_pos rfl]; exact lt_asym hl
    · rw [if_neg hj1]
      by_cases hjk : j = k
      · have hq : ¬ (j - 1) / 2 = k := by omega
        rw [if_pos hjk, if_neg hq]
        subst hjk
        exact h.2 c (by omega) hcn h0 hck
      · rw [if_neg hjk]
        by_cases hq : (j - 1) / 2 = k
        · rw [if_pos hq]; exact ho j hj (by omega)
        · rw [if_neg hq]; exact h.1 j h0 hj hq
  · intro j h0 hj hc0 hq
    rw [A, A]
    rw [if_neg (show ¬ j = c by omega), if_neg (show ¬ j = k by omega), hck, if_neg (show ¬ k = c by omega), if_pos rfl]
    have := h.1 j h0 hj (by omega)
    rw [hq] at this
    exact this
theorem heap_min {l : List Tn} {n : Nat} (h : HeapTo l n) : ∀ j, j < n → ltT (atT l j) (atT l 0) = false := by
  intro j
  induction j using Nat.strongRecOn with
  | ind j ih =>
    intro hj
    rcases Nat.eq_zero_or_pos j with h0 | h0
    · subst h0; rw [ltT_no]; omega
    · exact lt_negtr (h j h0 hj) (ih ((j - 1) / 2) (by omega) (by omega))
theorem down_start {l : List Tn} {n : Nat} (h : HeapTo l (n + 1)) (hn : l.length = n + 1) : DownInv (swapL l 0 n) n 0 := by
  have A := fun m => atT_swap (l := l) (i := 0) (j := n) (by omega) (by omega) m
  constructor
  · intro j h0 hj hq
    rw [A, A, if_neg (by omega), if_neg (by omega), if_neg (by omega), if_neg hq]
    exact h j h0 (by omega)
  · intro j _ _ h0; omega
theorem swap_behind {l : List Tn} {i j n : Nat} (hi : i < n) (hj : j < n) (hn : n ≤ l.length) (k : Nat) (hk : n ≤ k) : atT (swapL l i j) k = atT l k := by
  rw [atT_swap (by omega) (by omega), if_neg (by omega), if_neg (by omega)]
theorem take_heap {l : List Tn} {n : Nat} (h : HeapTo l n) (hn : n ≤ l.length) : HeapTo (l.take n) n := fun j h0 hj => by
  have A : ∀ m, m < n → atT (l.take n) m = atT l m := fun m hm => by unfold atT; rw [List.getElem?_take_of_lt hm]
  rw [A _ hj, A _ (by omega)]; exact h j h0 hj
theorem take_last {l : List Tn} {n : Nat} (hn : l.length = n + 1) : l = l.take n ++ [atT l n] := by
  have h := List.take_append_drop n l
  have hd : l.drop n = [atT l n] := by
    rw [List.drop_eq_getElem_cons (by omega)]
    have e : atT l n = l[n] := by unfold atT; rw [List.getElem?_eq_getElem (by omega)]; rfl
    rw [e, List.drop_of_length_le (by omega)]
  rw [hd] at h
  exact h.symm
end Go.Proofs.Ytmggggijamligaa
namespace Go.Proofs.Ytmggggijamligaa
set_option linter.unusedVariables false
open Go.RowKit
open Go.Lib (hid)
def cntP (l : List En) (h : List Int) (x : En) : Nat := x.v.countP fun c => !depB l h x.e.vt c
def cntO (l : List En) (had h : List Int) (i : Nat) (x : En) : Nat := if waitB l had i x then cntP l h x else 0
def cntI (l : List En) (had : List Int) (x : En) (id : Int) : Nat := x.v.countP fun c => decide (c.i = id) && !depB l had x.e.vt c
theorem ready_cnt (l : List En) (h : List Int) (i : Nat) (x : En) : readyB l h i x = (waitB l h i x && decide (cntP l h x = 0)) := by
  unfold readyB cntP
  congr 1
  rw [Bool.eq_iff_iff, decide_eq_true_eq, List.all_eq_true, List.countP_eq_zero]
  constructor
  · intro hh c hc; rw [hh c hc]; decide
  · intro hh c hc
    have := hh c hc
    simpa using this
theorem depB_app {l : List En} {h : List Int} {t id : Int} {c : C7} (hne : c.i ≠ id) : depB l (h ++ [id]) t c = depB l h t c := by
  unfold depB
  have : hasI (h ++ [id]) c.i = hasI h c.i := by
    unfold hasI
    rw [Bool.eq_iff_iff]
    simp [hne]
  rw [this]
theorem depB_same {l : List En} {h had : List Int} {t : Int} {c : C7} (he : hasI h c.i = hasI had c.i) : depB l h t c = depB l had t c := by
  unfold depB; rw [he]
theorem hasI_last (h : List Int) (id : Int) : hasI (h ++ [id]) id = true := by unfold hasI; simp
theorem depB_done {l : List En} {h : List Int} {t id : Int} {c : C7} {i : Nat} {y : En} (hf : findN l id = some i) (hy : l[i]? = some y) (hd : y.e.dn = true) (hc : c.i = id) : depB l (h ++ [id]) t c = true := by
  obtain ⟨z, hz, _, hz2⟩ := findN_some hf
  rw [hy] at hz
  obtain rfl := Option.some.inj hz
  unfold depB
  rw [hc, hz2, hasI_last]
  simp [hd]
theorem cnt_split {l : List En} {had h : List Int} {id : Int} {i : Nat} {y : En} (hf : findN l id = some i) (hy : l[i]? = some y) (hd : y.e.dn = true) (h0 : hasI h id = false) (h1 : hasI had id = false) (x : En) :
    cntP l h x = cntI l had x id + cntP l (h ++ [id]) x := by
  unfold cntP cntI
  generalize x.v = vs
  generalize x.e.vt = t
  induction vs with
  | nil => rfl
  | cons c vs ih =>
    rw [List.countP_cons, List.countP_cons, List.countP_cons, ih]
    by_cases hc : c.i = id
    · have e1 : depB l (h ++ [id]) t c = true := depB_done hf hy hd hc
      have e2 : depB l h t c = depB l had t c := depB_same (by rw [hc, h0, h1])
      rw [e1, e2]
      simp [hc]
      omega
    · rw [depB_app hc]
      simp [hc]
      omega
theorem cnt_le {l : List En} {had h : List Int} {id : Int} {i : Nat} {y : En} (hf : findN l id = some i) (hy : l[i]? = some y) (hd : y.e.dn = true) (h0 : hasI h id = false) (h1 : hasI had id = false) (x : En) : cntP l (h ++ [id]) x ≤ cntP l h x := by
  rw [cnt_split hf hy hd h0 h1 x]; omega
theorem wait_parts {l : List En} {h : List Int} {i : Nat} {x : En} : waitB l h i x = true ↔ x.e.dn = true ∧ hasI h x.id = false ∧ findN l x.id = some i := by
  unfold waitB
  simp [Bool.and_eq_true, and_assoc]
theorem hasI_app (h : List Int) (id j : Int) : hasI (h ++ [id]) j = (hasI h j || decide (j = id)) := by
  unfold hasI
  rw [Bool.eq_iff_iff]
  simp
def ToldOK (l : List En) (had h : List Int) : Prop := (∀ j, hasI had j = true → hasI h j = true) ∧ ∀ j x, l[j]? = some x → waitB l had j x = true → hasI h x.id = true → cntP l h x = 0
theorem told_start (l : List En) (had : List Int) : ToldOK l had had := ⟨fun _ h => h, fun j x hx hw hh => by
  rw [(wait_parts.1 hw).2.1] at hh; cases hh⟩
theorem told_next {l : List En} {had h : List Int} {i : Nat} {y : En} (hT : ToldOK l had h) (hy : l[i]? = some y) (hr : readyB l h i y = true) : ToldOK l had (h ++ [y.id]) := by
  have hr' := hr
  rw [ready_cnt, Bool.and_eq_true, decide_eq_true_eq] at hr
  obtain ⟨hw, hc⟩ := hr
  obtain ⟨hd, hn, hf⟩ := wait_parts.1 hw
  have hn0 : hasI had y.id = false := by
    rcases e : hasI had y.id with _ | _
    · rfl
    · rw [hT.1 _ e] at hn; cases hn
  refine ⟨fun j hj => by rw [hasI_app, hT.1 j hj]; rfl, fun j x hx hwx hh => ?_⟩
  have hle := cnt_le hf hy hd hn hn0 x
  rw [hasI_app] at hh
  rcases e : hasI h x.id with _ | _
  · rw [e] at hh
    have hxy : x.id = y.id := by simpa using hh
    have hfx := (wait_parts.1 hwx).2.2
    rw [hxy, hf] at hfx
    have hij := Option.some.inj hfx
    subst hij
    rw [hx] at hy
    obtain rfl := Option.some.inj hy
    omega
  · have := hT.2 j x hx hwx e
    omega
theorem next_up {l : List En} {h : List Int} {i : Nat} {x : En} (hx : l[i]? = some x) (hr : readyB l h i x = true) (hm : ∀ j y, l[j]? = some y → readyB l h j y = true → ltT (y.e.vt, j) (x.e.vt, i) = false) :
    ∀ k, (i < k → nextUp l h k = some i) ∧ (k ≤ i → ∀ j, nextUp l h k = some j → ∃ y, l[j]? = some y ∧ x.e.vt < y.e.vt) := by
  intro k
  induction k with
  | zero => exact ⟨fun hk => by omega, fun _ j hj => by cases hj⟩
  | succ k ih =>
    have hlen := (List.getElem?_eq_some_iff.1 hx).1
    by_cases hk : k < l.length
    · have hy : l[k]? = some l[k] := List.getElem?_eq_getElem hk
      rw [nextUp_succ hy]
      constructor
      · intro hik
        by_cases e : k = i
        · subst e
          rw [hy] at hx
          obtain rfl := Option.some.inj hx
          have hb : betterB l l[k] (nextUp l h k) = true := by
            rcases hn : nextUp l h k with _ | j
            · rfl
            · obtain ⟨y, hyj, hlt⟩ := ih.2 (Nat.le_refl _) j hn
              unfold betterB
              show (match l[j]? with | none => false | some y => _) = _
              rw [hyj]
              exact decide_eq_true hlt
          rw [hr, hb]; rfl
        · have h1 := ih.1 (by omega)
          rw [h1]
          have hno : (readyB l h k l[k] && betterB l l[k] (some i)) = false := by
            rcases hrk : readyB l h k l[k] with _ | _
            · rfl
            · have := hm k _ hy hrk
              rw [ltT_no] at this
              have hb : betterB l l[k] (some i) = decide (l[k].e.vt < x.e.vt) := by
                unfold betterB
                show (match l[i]? with | none => false | some y => _) = _
                rw [hx]
              rw [hb, Bool.true_and, decide_eq_false_iff_not]
              intro hlt
              exact this (.inl hlt)
          rw [hno]; rfl
      · intro hki j hj
        split at hj
        · rename_i hb
          cases hj
          have hrk := (Bool.and_eq_true _ _ ▸ hb : _ ∧ _).1
          have := hm k _ hy hrk
          rw [ltT_no] at this
          refine ⟨_, hy, ?_⟩
          have h2 : ¬ (l[k].e.vt < x.e.vt) := fun hlt => this (.inl hlt)
          have h3 : ¬ (l[k].e.vt = x.e.vt) := fun he => this (.inr ⟨he, by show k < i; omega⟩)
          omega
        · exact ih.2 (by omega) j hj
    · refine ⟨fun hik => ?_, fun hki => by omega⟩
      have hn : l[k]? = none := List.getElem?_eq_none (by omega)
      have e : nextUp l h (k + 1) = nextUp l h k := by
        show (match l[k]? with | none => _ | some x => _) = _
        rw [hn]
      rw [e]; exact ih.1 (by omega)
theorem next_min {l : List En} {h : List Int} {i : Nat} {x : En} (hx : l[i]? = some x) (hr : readyB l h i x = true) (hm : ∀ j y, l[j]? = some y → readyB l h j y = true → ltT (y.e.vt, j) (x.e.vt, i) = false) : nextN l h = some i :=
  (next_up hx hr hm l.length).1 (List.getElem?_eq_some_iff.1 hx).1
theorem next_none_up {l : List En} {h : List Int} : ∀ k, nextUp l h k = none → ∀ j x, j < k → l[j]? = some x → readyB l h j x = false := by
  intro k
  induction k with
  | zero => intro _ j x hj; omega
  | succ k ih =>
    intro hn j x hj hx
    rcases hy : l[k]? with _ | y
    · have : l.length ≤ k := List.getElem?_eq_none_iff.1 hy
      have := (List.getElem?_eq_some_iff.1 hx).1
      have e : nextUp l h (k + 1) = nextUp l h k := by
        show (match l[k]? with | none => _ | some x => _) = _
        rw [hy]
      exact ih (by rw [← e]; exact hn) j x (by omega) hx
    · rw [nextUp_succ hy] at hn
      split at hn
      · cases hn
      · rename_i hb
        rcases hj2 : decide (j = k) with _ | _
        · exact ih hn j x (by have := of_decide_eq_false hj2; omega) hx
        · have e := of_decide_eq_true hj2
          subst e
          rw [hy] at hx
          obtain rfl := Option.some.inj hx
          rw [hn] at hb
          have hbt : betterB l y none = true := rfl
          rw [hbt, Bool.and_true] at hb
          exact Bool.eq_false_iff.2 hb
theorem next_none {l : List En} {h : List Int} (hn : nextN l h = none) {j : Nat} {x : En} (hx : l[j]? = some x) : readyB l h j x = false := next_none_up l.length hn j x (List.getElem?_eq_some_iff.1 hx).1 hx
theorem next_of_none {l : List En} {h : List Int} (hn : ∀ j x, l[j]? = some x → readyB l h j x = false) : nextN l h = none := by
  rcases e : nextN l h with _ | i
  · rfl
  · obtain ⟨_, x, hx, hr⟩ := nextN_some e
    rw [hn i x hx] at hr; cases hr
theorem end_waits {l : List En} {had h : List Int} (hT : ToldOK l had h) (hn : nextN l h = none) {j : Nat} {x : En} (hx : l[j]? = some x) : waitB l h j x = decide (0 < cntO l had h j x) := by
  rw [Bool.eq_iff_iff, decide_eq_true_eq]
  constructor
  · intro hw
    obtain ⟨hd, hi, hf⟩ := wait_parts.1 hw
    have h0 : hasI had x.id = false := by
      rcases e : hasI had x.id with _ | _
      · rfl
      · rw [hT.1 _ e] at hi; cases hi
    have hr := next_none hn hx
    rw [ready_cnt, hw, Bool.true_and, decide_eq_false_iff_not] at hr
    unfold cntO
    rw [if_pos (wait_parts.2 ⟨hd, h0, hf⟩)]
    omega
  · intro hc
    unfold cntO at hc
    split at hc
    · rename_i hw
      obtain ⟨hd, _, hf⟩ := wait_parts.1 hw
      refine wait_parts.2 ⟨hd, ?_, hf⟩
      rcases e : hasI h x.id with _ | _
      · rfl
      · have := hT.2 j x hx hw e; omega
    · omega
end Go.Proofs.Ytmggggijamligaa
namespace Go.Proofs.Ytmggggijamligaa
set_option linter.unusedVariables false
open Go.RowKit
open Go.Lib (hid)
structure Tch (S : Nat → Prop) (w w' : World) : Prop where
  os : w'.os = w.os
  tape : w'.tape = w.tape
  output : w'.output = w.output
  size : w.heap.size ≤ w'.heap.size
  block : ∀ k, k < w.heap.size → ¬ S k → w'.heap[k]? = w.heap[k]?
theorem Tch.refl (S : Nat → Prop) (w : World) : Tch S w w := ⟨rfl, rfl, rfl, Nat.le_refl _, fun _ _ _ => rfl⟩
theorem Tch.trans {S : Nat → Prop} {a b c : World} (h : Tch S a b) (k : Tch S b c) : Tch S a c :=
  ⟨k.os.trans h.os, k.tape.trans h.tape, k.output.trans h.output, Nat.le_trans h.size k.size, fun i hi hn => (k.block i (Nat.lt_of_lt_of_le hi h.size) hn).trans (h.block i hi hn)⟩
theorem Tch.next {S S' : Nat → Prop} {a b c : World} (h : Tch S a b) (k : Tch S' b c) (hS : ∀ i, S' i → S i ∨ a.heap.size ≤ i) : Tch S a c :=
  ⟨k.os.trans h.os, k.tape.trans h.tape, k.output.trans h.output, Nat.le_trans h.size k.size, fun i hi hn => (k.block i (Nat.lt_of_lt_of_le hi h.size) (fun hs => by rcases hS i hs with h1 | h1; exact hn h1; omega)).trans (h.block i hi hn)⟩
theorem Tch.mono {S S' : Nat → Prop} {a b : World} (h : Tch S a b) (hS : ∀ k, S k → S' k) : Tch S' a b := ⟨h.os, h.tape, h.output, h.size, fun i hi hn => h.block i hi fun hs => hn (hS i hs)⟩
theorem Tch.ofBelow {S : Nat → Prop} {w w' : World} (h : Below w.heap.size w w') : Tch S w w' := ⟨h.1, h.2, h.3, h.4, fun k hk _ => h.5 k hk⟩
theorem Tch.ofGrown {S : Nat → Prop} {w w' : World} {row : Option Nat} (h : w.grownBy w' row) (hr : ∀ k, row = some k → S k) : Tch S w w' :=
  ⟨h.os, h.tape, h.output, h.size, fun k hk hn => h.block k hk fun e => hn (hr k e.symm)⟩
theorem Tch.below {S : Nat → Prop} {B : Nat} {w w' : World} (h : Tch S w w') (hS : ∀ k, S k → B ≤ k) (hB : B ≤ w.heap.size) : Below B w w' :=
  ⟨h.os, h.tape, h.output, h.size, fun k hk => h.block k (by omega) fun hs => by have := hS k hs; omega⟩
theorem Tch.ob {S : Nat → Prop} {w w' : World} (h : Tch S w w') {k : Nat} {o : Obj} (hk : w.heap[k]? = some o) (hS : ¬ S k) : w'.heap[k]? = some o := (h.block k (Array.getElem?_eq_some_iff.1 hk).1 hS).trans hk
theorem Tch.drew {S : Nat → Prop} {a b : World} (h : Tch S a b) : Tch S a b.drew := ⟨h.1, h.2, h.3, h.4, h.5⟩
theorem Tch.drewN {S : Nat → Prop} {a b : World} (h : Tch S a b) (n : Nat) : Tch S a (b.drewN n) := ⟨h.1, h.2, h.3, h.4, h.5⟩
theorem own_tch {S : Nat → Prop} {w w' : World} {B n size : Nat} {e : TypeId} {v : Value} {xs : List Value} (h : w.ownsRow B e size v n xs) (ht : Tch S w w') (hv : ∀ k, v.ownBlock = some k → ¬ S k) : w'.ownsRow B e size v n xs := by
  refine ⟨h.1, ?_⟩
  rcases h.2 with h2 | ⟨g, cap, cur, rfl, h1, hg, r⟩
  · exact .inl h2
  · exact .inr ⟨g, cap, cur, rfl, h1, ht.ob hg (hv g rfl), r⟩
theorem Try.infoT : (Try.prog.info? 81).map (fun i => (i.zero, i.size, i.bytes)) = some (some (.agg #[.int .i64 0, .int .i64 0]), 2, 16) := by kernel_rfl
def tnC (x : Tn) : List Value := [.int .i64 x.1, .int .i64 (x.2 : Int)]
theorem kT : ∀ x : Tn, (tnC x).length = 2 := fun _ => rfl
theorem oneT (x : Tn) : ∀ u ∈ tnC x, u.oneCell' = true := fun u hu => by
  simp [tnC] at hu; rcases hu with rfl | rfl <;> rfl
abbrev OwnT (w : World) (B : Nat) (v : Value) (l : List Tn) : Prop := OwnG tnC 2 81 w B v l
def TnR (w : World) (g : Nat) (l : List Tn) : Prop := ∀ (j : Nat) x, l[j]? = some x → w.cell? ⟨g, j * 2, none⟩ = some (.int .i64 x.1) ∧ w.cell? ⟨g, j * 2 + 1, none⟩ = some (.int .i64 (x.2 : Int))
theorem OwnT.shape {w : World} {B : Nat} {v : Value} {l : List Tn} (h : OwnT w B v l) :
    (v = .slice none 0 0 ∧ l = []) ∨ ∃ g cap, v = .slice (some ⟨g, 0, none⟩) l.length cap ∧ l.length ≤ cap ∧ cap ≤ maxLen ∧ B ≤ g ∧ g < w.heap.size ∧ TnR w g l ∧ ∀ j, w.frozen? ⟨g, j, none⟩ = false := by
  have hl := h.lt
  have h1 := h
  have hcl := fun g (hg : v.ownBlock = some g) => h.cells hg
  rcases h.2 with ⟨rfl, h0⟩ | ⟨g, cap, cur, rfl, hb, hg, hn, hm, hs, ht⟩
  · exact .inl ⟨rfl, List.length_eq_zero_iff.1 h0⟩
  · refine .inr ⟨g, cap, rfl, hn, hm, hb, (hl g rfl).2, fun j o hj => ?_, fun j => h1.frozenAt j⟩
    have hat := fun f u hu => hcl g rfl _ _ (flatG_at kT l j o hj f u hu)
    simp only [addr_add] at hat
    exact ⟨hat 0 _ rfl, hat 1 _ rfl⟩
theorem flatT_set : ∀ (l : List Tn) (i : Nat) (x : Tn), i < l.length → flatG tnC (l.set i x) = ((flatG tnC l).set (i * 2) (.int .i64 x.1)).set (i * 2 + 1) (.int .i64 (x.2 : Int))
  | a :: l, 0, x, _ => rfl
  | a :: l, i + 1, x, h => by
    have ih := flatT_set l i x (by simpa using h)
    rw [List.set_cons_succ, flatG_cons, flatG_cons, ih, show (i + 1) * 2 = i * 2 + 1 + 1 by omega]
    rfl
theorem row_setT {w : World} {B g n cap : Nat} {l : List Tn} (h : OwnT w B (.slice (some ⟨g, 0, none⟩) n cap) l) {k : Nat} (hk : k < l.length) (x : Tn) :
    OwnT ((w.setCell ⟨g, k * 2, none⟩ (.int .i64 x.1)).setCell ⟨g, k * 2 + 1, none⟩ (.int .i64 (x.2 : Int))) B (.slice (some ⟨g, 0, none⟩) n cap) (l.set k x) := by
  have hn : n = l.length := by
    obtain ⟨_, _, _, e, hn⟩ := h.asSlice
    injection e with _ e2 _
    rw [e2, hn]
  subst hn
  have h1 := (World.ownsRow.stored h (k * 2) (.int .i64 x.1)).1
  have h2 := (World.ownsRow.stored h1 (k * 2 + 1) (.int .i64 (x.2 : Int))).1
  rw [← flatT_set l k x hk] at h2
  show World.ownsRow _ _ _ _ _ _ _
  rw [List.length_set]
  exact h2
theorem mLen {W : World} {R : Nat} {tv : Value} (h : W.cell? ⟨R, 5, none⟩ = some tv) : (method 209 83 (.pointer (some ⟨R, 5, none⟩)) "Len").run Try.prog W = .ok (54, tv) W := by
  have e : (method 209 83 (.pointer (some ⟨R, 5, none⟩)) "Len").run Try.prog W = ((do let v ← load ⟨R, 5, none⟩; pure (54, v) : Sem (FuncId × Value))).run Try.prog W := by kernel_rfl
  rw [e]
  simp [h]
end Go.Proofs.Ytmggggijamligaa
namespace Go.Proofs.Ytmggggijamligaa
set_option linter.unusedVariables false
open Go.RowKit
open Go.Lib (hid)
theorem cLen {tv : Value} {n : Nat} {g : Option Addr} {cap : Nat} {w : World} (hv : tv = .slice g n cap) : Calls Try.prog 54 #[tv] w fun e w' => e = .returned (.int .i64 n) ∧ w' = w := by
  subst hv
  go_enter Try.func54, Try.ntmps54
  go_wp2_with fail
  go_ret
  exact ⟨rfl, rfl⟩
set_option maxHeartbeats 4000000 in
set_option maxRecDepth 100000 in
theorem cLess {w : World} {g n cap : Nat} {l : List Tn} (hR : TnR w g l) (hn : n = l.length) {i j : Nat} (hi : i < l.length) (hj : j < l.length) : Calls Try.prog 55 #[.slice (some ⟨g, 0, none⟩) n cap, .int .i64 i, .int .i64 j] w fun e w' => e = .returned (.bool (ltT (atT l i) (atT l j))) ∧ Below w.heap.size w w' := by
  obtain ⟨a0, a1⟩ := hR i _ (atT_some hi)
  obtain ⟨b0, b1⟩ := hR j _ (atT_some hj)
  rw [← hn] at hi hj
  obtain ⟨a, ha⟩ : ∃ a, a = atT l i := ⟨_, rfl⟩
  obtain ⟨b, hb⟩ : ∃ b, b = atT l j := ⟨_, rfl⟩
  rw [← ha] at a0 a1 ⊢
  rw [← hb] at b0 b1 ⊢
  clear hR ha hb hn
  obtain ⟨at', ap⟩ := a
  obtain ⟨bt, bp⟩ := b
  have hii : ((i : Int) < n) := by omega
  have hjj : ((j : Int) < n) := by omega
  dsimp only at a0 a1 b0 b1
  go_enter Try.func55, Try.ntmps55
  by_cases e : at' = bt
  · subst e
    have hne : (at' != at') = false := by simp
    have e2 : ltT (at', ap) (at', bp) = decide (ap < bp) := by unfold ltT; simp
    go_wp2_with fail
    go_quiet (fail)
    go_wp2_with fail
    go_quiet (fail)
    go_wp2_with fail
    go_ret
    exact ⟨by rw [e2]; rfl, Below.drewN' (Below.drewN' (Below.refl _ _) _) _⟩
  · have hne : (at' != bt) = true := by simpa using e
    have e2 : ltT (at', ap) (bt, bp) = decide (at' < bt) := by unfold ltT; simp [e]
    go_wp2_with fail
    go_quiet (fail)
    go_wp2_with fail
    go_quiet (fail)
    go_wp2_with fail
    go_ret
    exact ⟨by rw [e2]; rfl, Below.drewN' (Below.drewN' (Below.refl _ _) _) _⟩
set_option maxHeartbeats 4000000 in
set_option maxRecDepth 100000 in
theorem cSwap {w : World} {B g n cap : Nat} {l : List Tn} (hO : OwnT w B (.slice (some ⟨g, 0, none⟩) n cap) l) (hn : n = l.length) {i j : Nat} (hi : i < l.length) (hj : j < l.length) : Calls Try.prog 56 #[.slice (some ⟨g, 0, none⟩) n cap, .int .i64 i, .int .i64 j] w fun e w' => e = .returned (.tuple #[]) ∧ OwnT w' B (.slice (some ⟨g, 0, none⟩) n cap) (swapL l i j) ∧ w.grownBy w' (some g) := by
  have hsh := hO.shape
  rcases hsh with ⟨hx, _⟩ | ⟨g', cap', hx, _, _, hB, hg, hR, hf⟩
  · cases hx
  have hgg : g = g' := by injection hx with h1 _ _; injection h1 with h1; injection h1
  subst hgg
  obtain ⟨a0, a1⟩ := hR i _ (atT_some hi)
  obtain ⟨b0, b1⟩ := hR j _ (atT_some hj)
  obtain ⟨a, ha⟩ : ∃ a, a = atT l i := ⟨_, rfl⟩
  obtain ⟨b, hb⟩ : ∃ b, b = atT l j := ⟨_, rfl⟩
  rw [← ha] at a0 a1
  rw [← hb] at b0 b1
  have HE : Hid (swapL l i j = (l.set i b).set j a) := hid (by unfold swapL; rw [ha, hb])
  have HO := hid hO
  have HL : Hid (i < l.length ∧ j < l.length) := hid ⟨hi, hj⟩
  have hii : ((i : Int) < n) := by omega
  have hjj : ((j : Int) < n) := by omega
  have f0 := hf (i * 2)
  have f1 := hf (i * 2 + 1)
  have f2 := hf (j * 2)
  have f3 := hf (j * 2 + 1)
  obtain ⟨at', ap⟩ := a
  obtain ⟨bt, bp⟩ := b
  dsimp only at a0 a1 b0 b1
  have c1 : (w.setCell ⟨g, i * 2, none⟩ (.int .i64 bt)).cell? ⟨g, j * 2, none⟩ = some (.int .i64 bt) := by
    by_cases e : i = j
    · subst e; exact World.cell?_setCell_same _ _ _ a0
    · rw [World.cell?_setCell_other _ _ _ _ (fun h => by injection h; omega)]; exact b0
  have c2 : ((w.setCell ⟨g, i * 2, none⟩ (.int .i64 bt)).setCell ⟨g, i * 2 + 1, none⟩ (.int .i64 (bp : Int))).cell? ⟨g, j * 2 + 1, none⟩ = some (.int .i64 (bp : Int)) := by
    by_cases e : i = j
    · subst e; exact World.cell?_setCell_same _ _ _ ((World.cell?_setCell_other _ _ _ _ (fun h => by injection h; omega)).trans a1)
    · rw [World.cell?_setCell_other _ _ _ _ (fun h => by injection h; omega), World.cell?_setCell_other _ _ _ _ (fun h => by injection h; omega)]; exact b1
  clear hR hf hO ha hb hn hx hi hj
  go_enter Try.func56, Try.ntmps56
  go_region
  go_end0
  have r1 := row_setT HO.out HL.out.1 (bt, bp)
  have r2 := row_setT r1 (by rw [List.length_set]; exact HL.out.2) (at', ap)
  rw [← HE.out] at r2
  exact ⟨rfl, r2, grownDrew (grownTrans (grownTrans (grownTrans (grownSet _ _ _) (grownSet _ _ _)) (grownSet _ _ _)) (grownSet _ _ _))⟩
end Go.Proofs.Ytmggggijamligaa
