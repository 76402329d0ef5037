import Derived.Test.YtmggggijamligaaG02
import Derived.Test.YtmggggijamligaaG00
import Derived.Test.YtmggggijamligaaRows
namespace Go.Proofs.Ytmggggijamligaa
set_option linter.unusedVariables false
open Go.RowKit
open Go.Lib (hid)
theorem run_ind {l : List En} {P : List Int → List C7 → Prop} (h0 : ∀ h, nextN l h = none → P h []) (h1 : ∀ h i x out, nextN l h = some i → l[i]? = some x → P (h ++ [x.id]) out → P h (x.e.c :: out)) : ∀ (n : Nat) (h : List Int), leftN l h ≤ n → P h (allF l h) := by
  intro n
  induction n with
  | zero =>
    intro h hl
    rcases hN : nextN l h with _ | i
    · rw [allF_none hN]; exact h0 h hN
    · obtain ⟨_, x, hx, hr⟩ := nextN_some hN
      have := leftN_lt hx (readyB_new hr)
      omega
  | succ n ih =>
    intro h hl
    rcases hN : nextN l h with _ | i
    · rw [allF_none hN]; exact h0 h hN
    · obtain ⟨_, x, hx, hr⟩ := nextN_some hN
      have := leftN_lt hx (readyB_new hr)
      rw [allF_some hN hx]
      exact h1 h i x _ hN hx (ih _ (by omega))
theorem run_end (l : List En) (h : List Int) : nextN l (h ++ idsL (allF l h)) = none :=
  run_ind (l := l) (P := fun h out => nextN l (h ++ idsL out) = none) (fun h hN => by simpa [idsL] using hN) (fun h i x out hN hx hP => by
    have e : h ++ idsL (x.e.c :: out) = h ++ [x.id] ++ idsL out := by unfold idsL; simp
    rw [e]; exact hP) _ h (Nat.le_refl _)
theorem run_ready (l : List En) (h : List Int) : ∀ p c, (allF l h)[p]? = some c → ∃ j x, l[j]? = some x ∧ x.e.c = c ∧ readyB l (h ++ idsL ((allF l h).take p)) j x = true :=
  run_ind (l := l) (P := fun h out => ∀ p c, out[p]? = some c → ∃ j x, l[j]? = some x ∧ x.e.c = c ∧ readyB l (h ++ idsL (out.take p)) j x = true) (fun h hN p c hc => by simp at hc) (fun h i x out hN hx hP p c hc => by
    obtain ⟨_, y, hy, hr⟩ := nextN_some hN
    obtain rfl : x = y := by rw [hx] at hy; exact Option.some.inj hy
    rcases p with _ | p
    · simp at hc; subst hc
      exact ⟨i, x, hx, rfl, by simpa [idsL] using hr⟩
    · obtain ⟨j, y, hj, hc2, hr2⟩ := hP p c (by simpa using hc)
      refine ⟨j, y, hj, hc2, ?_⟩
      have e : h ++ idsL ((x.e.c :: out).take (p + 1)) = h ++ [x.id] ++ idsL (out.take p) := by unfold idsL; simp
      rw [e]; exact hr2) _ h (Nat.le_refl _)
theorem nextUp_none {l : List En} {h : List Int} : ∀ {k : Nat}, nextUp l h k = none → ∀ j x, j < k → l[j]? = some x → readyB l h j x = false
  | 0, _, j, x, hj, _ => absurd hj (by omega)
  | k + 1, hN, j, x, hj, hx => by
    rcases hy : l[k]? with _ | y
    · have hl := List.getElem?_eq_none_iff.1 hy
      have hjl := (List.getElem?_eq_some_iff.1 hx).1
      have e : nextUp l h (k + 1) = nextUp l h k := by
        show (match l[k]? with | none => _ | some x => _) = _
        rw [hy]
      rw [e] at hN
      exact nextUp_none hN j x (by omega) hx
    · rw [nextUp_succ hy] at hN
      split at hN
      · cases hN
      · rename_i hr
        rw [hN] at hr
        by_cases hjk : j = k
        · subst hjk
          rw [hx] at hy
          obtain rfl := Option.some.inj hy
          simpa [betterB] using hr
        · exact nextUp_none hN j x (by omega) hx
def cmdT (S : Nat → Int) (i : Nat) : C7 := ⟨16 * ((i : Int) + 1), 1, S i, 16, 0, 0, 0⟩
theorem cmdT_inj {S : Nat → Int} {i j : Nat} (h : (cmdT S i).i = (cmdT S j).i) : i = j := by
  have : 16 * ((i : Int) + 1) = 16 * ((j : Int) + 1) := h
  omega
structure OkT (n : Nat) (S : Nat → Int) (T : Nat → Nat) (i : Nat) (x : En) : Prop where
  c : x.e.c = cmdT S i
  dn : x.e.dn = true
  vt : x.e.vt = 16 * ((T i : Int) + 1) + ((i % 9 : Nat) : Int)
  sub : ∀ c ∈ x.v, ∃ k, k < n ∧ k ≠ i ∧ S k = S i ∧ c = cmdT S k
  has : ∀ k, k < n → k ≠ i → S k = S i → T k < T i → cmdT S k ∈ x.v
structure GoodT (n : Nat) (S : Nat → Int) (T : Nat → Nat) (l : List En) (ix : List Nat) : Prop where
  len : l.length = ix.length
  ok : ∀ (j : Nat) (x : En) (i : Nat), l[j]? = some x → ix[j]? = some i → OkT n S T i x
  nd : ix.Nodup
  lt : ∀ i ∈ ix, i < n
section
variable {n : Nat} {S : Nat → Int} {T : Nat → Nat} {l : List En} {ix : List Nat}
theorem GoodT.get (h : GoodT n S T l ix) {j : Nat} {x : En} (hx : l[j]? = some x) : ∃ i, ix[j]? = some i ∧ i ∈ ix ∧ i < n ∧ OkT n S T i x := by
  have hj := (List.getElem?_eq_some_iff.1 hx).1
  have hi : ix[j]? = some (ix[j]'(by rw [← h.len]; exact hj)) := List.getElem?_eq_getElem _
  exact ⟨_, hi, List.mem_of_getElem? hi, h.lt _ (List.mem_of_getElem? hi), h.ok _ _ _ hx hi⟩
theorem OkT.id {i : Nat} {x : En} (h : OkT n S T i x) : x.id = (cmdT S i).i := by
  show x.e.c.i = _
  rw [h.c]
theorem GoodT.find (h : GoodT n S T l ix) {k : Nat} {y : En} (hf : l.find? (isId (cmdT S k).i) = some y) : OkT n S T k y ∧ k ∈ ix := by
  have hm := List.mem_of_find?_eq_some hf
  obtain ⟨j, hj⟩ := List.getElem?_of_mem hm
  obtain ⟨i, hi, hix, _, ho⟩ := h.get hj
  have h1 : isId (cmdT S k).i y = true := List.find?_some hf
  unfold isId at h1
  have h2 : y.id = (cmdT S k).i := by simpa using h1
  rw [ho.id] at h2
  obtain rfl := cmdT_inj h2
  exact ⟨ho, hix⟩
theorem vt_lt {i k : Nat} {x y : En} (hx : OkT n S T i x) (hy : OkT n S T k y) (h : T i < T k) : x.e.vt < y.e.vt := by
  rw [hx.vt, hy.vt]
  have := Nat.mod_lt i (show 0 < 9 by decide)
  omega
theorem vt_not {i k : Nat} {x y : En} (hx : OkT n S T i x) (hy : OkT n S T k y) (h : T i < T k) : ¬ y.e.vt < x.e.vt := by
  have := vt_lt hx hy h
  omega
def toldT (l : List En) : List Nat := (allF l []).map fun c => (c.i / 16 - 1).toNat
theorem toldT_of (i : Nat) : ((cmdT S i).i / 16 - 1).toNat = i := by
  show ((16 * ((i : Int) + 1)) / 16 - 1).toNat = i
  omega
theorem told_all (h : GoodT n S T l ix) : ∀ c ∈ allF l [], ∃ i, i ∈ ix ∧ c = cmdT S i := fun c hc => by
  obtain ⟨p, hp⟩ := List.getElem?_of_mem hc
  obtain ⟨j, x, hx, hc2, _⟩ := run_ready l [] p c hp
  obtain ⟨i, _, hix, _, ho⟩ := h.get hx
  exact ⟨i, hix, by rw [← hc2]; exact ho.c⟩
theorem told_map (h : GoodT n S T l ix) : (toldT l).map (cmdT S) = allF l [] := by
  unfold toldT
  rw [List.map_map]
  conv => rhs; rw [← List.map_id (allF l [])]
  refine List.map_congr_left fun c hc => ?_
  obtain ⟨i, _, rfl⟩ := told_all h c hc
  show cmdT S ((cmdT S i).i / 16 - 1).toNat = cmdT S i
  rw [toldT_of]
theorem told_at (h : GoodT n S T l ix) {p i : Nat} (hp : (toldT l)[p]? = some i) : (allF l [])[p]? = some (cmdT S i) := by
  rw [← told_map h, List.getElem?_map, hp]; rfl
theorem told_sub (h : GoodT n S T l ix) : ∀ i ∈ toldT l, i ∈ ix := fun i hi => by
  obtain ⟨p, hp⟩ := List.getElem?_of_mem hi
  obtain ⟨k, hk, e⟩ := told_all h _ (List.mem_of_getElem? (told_at h hp))
  obtain rfl := cmdT_inj (congrArg C7.i e)
  exact hk
theorem told_step (h : GoodT n S T l ix) {p i : Nat} (hp : (toldT l)[p]? = some i) : ∃ j x, l[j]? = some x ∧ OkT n S T i x ∧ readyB l (idsL ((allF l []).take p)) j x = true := by
  obtain ⟨j, x, hx, hc, hr⟩ := run_ready l [] p _ (told_at h hp)
  obtain ⟨k, _, _, _, ho⟩ := h.get hx
  rw [ho.c] at hc
  obtain rfl := cmdT_inj (congrArg C7.i hc)
  exact ⟨j, x, hx, ho, by simpa using hr⟩
theorem has_take (h : GoodT n S T l ix) {p k : Nat} (hk : hasI (idsL ((allF l []).take p)) (cmdT S k).i = true) : k ∈ (toldT l).take p := by
  unfold hasI at hk
  simp only [List.contains_eq_mem, decide_eq_true_eq] at hk
  rw [← told_map h, ← List.map_take] at hk
  unfold idsL at hk
  rw [List.map_map] at hk
  obtain ⟨i, hi, e⟩ := List.mem_map.1 hk
  obtain rfl := cmdT_inj (S := S) e
  exact hi
theorem take_has (h : GoodT n S T l ix) {p k : Nat} (hk : k ∈ (toldT l).take p) : hasI (idsL ((allF l []).take p)) (cmdT S k).i = true := by
  unfold hasI
  simp only [List.contains_eq_mem, decide_eq_true_eq]
  rw [← told_map h, ← List.map_take]
  unfold idsL
  rw [List.map_map]
  exact List.mem_map.2 ⟨k, hk, rfl⟩
theorem told_new (h : GoodT n S T l ix) {p i : Nat} (hp : (toldT l)[p]? = some i) : i ∉ (toldT l).take p := fun hi => by
  obtain ⟨j, x, hx, ho, hr⟩ := told_step h hp
  have := readyB_new hr
  rw [ho.id, take_has h hi] at this
  cases this
theorem told_less (h : GoodT n S T l ix) {p i k : Nat} (hp : (toldT l)[p]? = some i) (hk : k < n) (hs : S k = S i) (ht : T k < T i) : k ∈ (toldT l).take p := by
  obtain ⟨j, x, hx, ho, hr⟩ := told_step h hp
  have hm := ho.has k hk (fun e => by subst e; omega) hs ht
  unfold readyB at hr
  have h2 := (Bool.and_eq_true _ _ ▸ hr).2
  have h3 := List.all_eq_true.1 h2 _ hm
  unfold depB at h3
  rcases hf : l.find? (isId (cmdT S k).i) with _ | y
  · rw [hf] at h3; cases h3
  · rw [hf] at h3
    have hy := (h.find hf).1
    have h4 : (decide (x.e.vt < y.e.vt) || hasI (idsL ((allF l []).take p)) (cmdT S k).i) = true := (Bool.and_eq_true _ _ ▸ h3).2
    rw [decide_eq_false (vt_not hy ho ht), Bool.false_or] at h4
    exact has_take h h4
theorem told_rise (hT : ∀ i k, i < n → k < n → T i = T k → i = k) (h : GoodT n S T l ix) {p q i k : Nat} (hpq : p < q) (hp : (toldT l)[p]? = some i) (hq : (toldT l)[q]? = some k) (hs : S i = S k) : T i < T k := by
  have hin := h.lt _ (told_sub h i (List.mem_of_getElem? hp))
  have hkn := h.lt _ (told_sub h k (List.mem_of_getElem? hq))
  rcases Nat.lt_trichotomy (T i) (T k) with h1 | h1 | h1
  · exact h1
  · obtain rfl := hT _ _ hin hkn h1
    exact absurd (List.mem_of_getElem? (by rw [List.getElem?_take, if_pos hpq]; exact hp)) (told_new h hq)
  · have hm := told_less h hp hkn hs.symm h1
    refine absurd ?_ (told_new h hq)
    obtain ⟨r, hr⟩ := List.getElem?_of_mem hm
    rw [List.getElem?_take] at hr
    split at hr
    · exact List.mem_of_getElem? (i := r) (by rw [List.getElem?_take, if_pos (by omega)]; exact hr)
    · cases hr
theorem told_pair (hT : ∀ i k, i < n → k < n → T i = T k → i = k) (h : GoodT n S T l ix) : (toldT l).Pairwise fun a b => S a = S b → T a < T b := by
  rw [List.pairwise_iff_getElem]
  intro p q hp hq hpq hs
  exact told_rise hT h hpq (List.getElem?_eq_getElem hp) (List.getElem?_eq_getElem hq) hs
theorem mem_all (h : GoodT n S T l ix) {k : Nat} (hk : hasI (idsL (allF l [])) (cmdT S k).i = true) : k ∈ toldT l := by
  have := has_take h (p := (allF l []).length) (k := k) (by rw [List.take_length]; exact hk)
  exact List.mem_of_mem_take this
theorem all_mem (h : GoodT n S T l ix) {k : Nat} (hk : k ∈ toldT l) : hasI (idsL (allF l [])) (cmdT S k).i = true := by
  have := take_has h (p := (allF l []).length) (k := k) (by rw [List.take_of_length_le (by unfold toldT; rw [List.length_map]; omega)]; exact hk)
  rwa [List.take_length] at this
theorem ready_of (hT : ∀ i k, i < n → k < n → T i = T k → i = k) (h : GoodT n S T l (List.range n)) {i : Nat} {x : En} (hx : l[i]? = some x) (hi : i < n) (hno : ¬ hasI (idsL (allF l [])) (cmdT S i).i = true) (hb : ∀ k, k < n → S k = S i → T k < T i → hasI (idsL (allF l [])) (cmdT S k).i = true) : readyB l ([] ++ idsL (allF l [])) i x = true := by
  have hl : l.length = n := by rw [h.len, List.length_range]
  have hat : ∀ k, k < n → ∃ y, l[k]? = some y ∧ OkT n S T k y := fun k hk => by
    obtain ⟨y, hy⟩ : ∃ y, l[k]? = some y := ⟨l[k]'(by omega), List.getElem?_eq_getElem (by omega)⟩
    exact ⟨y, hy, h.ok k y k hy (by rw [List.getElem?_range hk])⟩
  have hfd : ∀ k, k < n → findN l (cmdT S k).i = some k := fun k hk => by
    obtain ⟨y, hy, ho⟩ := hat k hk
    refine findN_yes hy (by unfold isId; rw [ho.id]; simp) fun z hz => ?_
    obtain ⟨j, hj⟩ := List.getElem?_of_mem hz
    rw [List.getElem?_take] at hj
    split at hj
    · rename_i hjk
      have hoz := h.ok j z j hj (by rw [List.getElem?_range (by omega)])
      unfold isId
      rw [hoz.id]
      exact decide_eq_false fun e => by have := cmdT_inj e; omega
    · cases hj
  obtain ⟨x', hx', ho⟩ := hat i hi
  obtain rfl : x = x' := by rw [hx] at hx'; exact Option.some.inj hx'
  unfold readyB waitB
  rw [ho.dn, ho.id, hfd i hi, List.nil_append]
  have hno' : hasI (idsL (allF l [])) (cmdT S i).i = false := by simpa using hno
  rw [hno']
  simp only [Bool.not_false, Bool.and_self, Bool.true_and, decide_true]
  rw [List.all_eq_true]
  intro c hc
  obtain ⟨k, hk, hki, hs, rfl⟩ := ho.sub c hc
  obtain ⟨y, hy, hoy⟩ := hat k hk
  obtain ⟨z, hz, _, hf⟩ := findN_some (hfd k hk)
  obtain rfl : y = z := by rw [hy] at hz; exact Option.some.inj hz
  unfold depB
  rw [hf]
  show (y.e.dn && (decide (x.e.vt < y.e.vt) || hasI (idsL (allF l [])) (cmdT S k).i)) = true
  rw [hoy.dn, Bool.true_and]
  rcases Nat.lt_trichotomy (T i) (T k) with h1 | h1 | h1
  · rw [decide_eq_true (vt_lt ho hoy h1), Bool.true_or]
  · exact absurd (hT _ _ hi hk h1).symm hki
  · rw [hb k hk hs h1, Bool.or_true]
theorem told_full (hT : ∀ i k, i < n → k < n → T i = T k → i = k) (h : GoodT n S T l (List.range n)) : ∀ i, i < n → i ∈ toldT l := by
  have key : ∀ (b i : Nat), T i ≤ b → i < n → i ∈ toldT l := by
    intro b
    induction b with
    | zero =>
      intro i hb hi
      exact Classical.byContradiction fun hno => by
        have hl : l.length = n := by rw [h.len, List.length_range]
        obtain ⟨x, hx⟩ : ∃ x, l[i]? = some x := ⟨l[i]'(by omega), List.getElem?_eq_getElem (by omega)⟩
        exact absurd (nextUp_none (run_end l []) i x (by omega) hx) (by
          rw [ready_of hT h hx hi (fun hm => hno (mem_all h hm)) (fun k hk hs ht => by omega)]; decide)
    | succ b ih =>
      intro i hb hi
      exact Classical.byContradiction fun hno => by
        have hl : l.length = n := by rw [h.len, List.length_range]
        obtain ⟨x, hx⟩ : ∃ x, l[i]? = some x := ⟨l[i]'(by omega), List.getElem?_eq_getElem (by omega)⟩
        exact absurd (nextUp_none (run_end l []) i x (by omega) hx) (by
          rw [ready_of hT h hx hi (fun hm => hno (mem_all h hm)) (fun k hk hs ht => all_mem h (ih k (by omega) hk))]; decide)
  exact fun i hi => key _ i (Nat.le_refl _) hi
end
theorem begins {α : Type} {r : α → Nat} : ∀ {x y : List α}, x.Pairwise (fun a b => r a < r b) → y.Pairwise (fun a b => r a < r b) → (∀ b ∈ y, b ∈ x) → (∀ b ∈ y, ∀ a ∈ x, r a < r b → a ∈ y) → y <+: x
  | [], y, hx, hy, hs, hc => by
    rcases y with _ | ⟨b, y⟩
    · exact List.prefix_rfl
    · exact absurd (hs b (List.mem_cons_self ..)) (by simp)
  | a :: x, y, hx, hy, hs, hc => by
    rcases y with _ | ⟨b, y⟩
    · exact List.nil_prefix
    · have hx' := List.pairwise_cons.1 hx
      have hy' := List.pairwise_cons.1 hy
      have hab : b = a := by
        rcases List.mem_cons.1 (hs b (List.mem_cons_self ..)) with e | hb
        · exact e
        · rcases List.mem_cons.1 (hc b (List.mem_cons_self ..) a (List.mem_cons_self ..) (hx'.1 b hb)) with e | ha
          · exact e.symm
          · have := hy'.1 a ha
            have := hx'.1 b hb
            omega
      subst hab
      rw [List.cons_prefix_cons]
      refine ⟨rfl, begins hx'.2 hy'.2 (fun c hcm => ?_) (fun c hcm d hd hlt => ?_)⟩
      · rcases List.mem_cons.1 (hs c (List.mem_cons_of_mem _ hcm)) with e | h
        · subst e; have := hy'.1 c hcm; omega
        · exact h
      · rcases List.mem_cons.1 (hc c (List.mem_cons_of_mem _ hcm) d (List.mem_cons_of_mem _ hd) hlt) with e | h
        · subst e; have := hx'.1 d hd; omega
        · exact h
end Go.Proofs.Ytmggggijamligaa
namespace Go.Proofs.Ytmggggijamligaa
set_option linter.unusedVariables false
open Go.RowKit
open Go.Lib (hid)
def zC7 : C7 := ⟨0, 0, 0, 0, 0, 0, 0⟩
abbrev wfI (i : Int) : Prop := (Lit.int .i64 i).wf = true
def WfA (l : List En) (had : List Int) : Prop := (∀ y ∈ l, wfI y.id ∧ ∀ c ∈ y.v, wfI c.i) ∧ ∀ x ∈ had, wfI x
theorem wfI_of {x : Int} (h : -9223372036854775808 ≤ x ∧ x ≤ 9223372036854775807) : wfI x := by
  have e1 : IntKind.i64.min = -9223372036854775808 := by decide
  have e2 : IntKind.i64.max = 9223372036854775807 := by decide
  simp [wfI, Lit.wf, e1, e2]; exact h
def nextC (l : List En) : Option Nat → C7
  | none => zC7
  | some i => match l[i]? with
    | none => zC7
    | some x => x.e.c
theorem nextC_some {l : List En} {i : Nat} {x : En} (h : l[i]? = some x) : nextC l (some i) = x.e.c := by
  show (match l[i]? with | none => _ | some x => _) = _
  rw [h]
def NextOK : Prop := ∀ {v vh : Value} {l : List En} {had : List Int} {w : World}, SlE w v (evs l) → AllAt w l → (∀ y ∈ l, y.short 100) → l.length ≤ 1000 → SlS w vh had → had.length ≤ 10000 → WfA l had → ∀ o, o = nextN l had → ∀ c, c = nextC l o → ∀ ok, ok = o.isSome → Calls Try.prog 8 #[v, vh] w fun e w' => e = .returned (.tuple #[c.v, .bool ok]) ∧ Below w.heap.size w w'
def AllOK : Prop := ∀ {v vh : Value} {l : List En} {had : List Int} {w : World}, SlE w v (evs l) → AllAt w l → (∀ y ∈ l, y.short 100) → l.length ≤ 1000 → SlS w vh had → had.length ≤ 10000 → WfA l had → Calls Try.prog 11 #[v, vh] w fun e w' => ∃ r, e = .returned r ∧ Own w' w.heap.size r (allF l had) ∧ Below w.heap.size w w'
def WaitsOK : Prop := ∀ {v vh : Value} {l : List En} {had : List Int} {w : World}, SlE w v (evs l) → AllAt w l → (∀ y ∈ l, y.short 100) → l.length ≤ 1000 → SlS w vh had → had.length ≤ 10000 → WfA l had → Calls Try.prog 14 #[v, vh] w fun e w' => ∃ r, e = .returned r ∧ OwnI w' w.heap.size r (waitsF l had) ∧ Below w.heap.size w w'
def AliveOK : Prop := ∀ w : World, Calls Try.prog 6 #[] w fun e w' => e = .returned (.bool true) ∧ Below w.heap.size w w'
end Go.Proofs.Ytmggggijamligaa
namespace Go.Proofs.Ytmggggijamligaa
set_option linter.unusedVariables false
abbrev Tn : Type := Int × Nat
def ltT (a b : Tn) : Bool := if a.1 = b.1 then decide (a.2 < b.2) else decide (a.1 < b.1)
theorem ltT_yes {a b : Tn} : ltT a b = true ↔ (a.1 < b.1 ∨ (a.1 = b.1 ∧ a.2 < b.2)) := by
  unfold ltT
  split
  · rename_i h; simp only [decide_eq_true_eq]; constructor
    · intro h2; exact .inr ⟨h, h2⟩
    · rintro (h2 | ⟨_, h2⟩)
      · omega
      · exact h2
  · rename_i h; simp only [decide_eq_true_eq]; constructor
    · intro h2; exact .inl h2
    · rintro (h2 | ⟨h2, _⟩)
      · exact h2
      · exact absurd h2 h
theorem ltT_no {a b : Tn} : ltT a b = false ↔ ¬ (a.1 < b.1 ∨ (a.1 = b.1 ∧ a.2 < b.2)) := by
  rw [← ltT_yes]; exact (Bool.not_eq_true _).symm ▸ Iff.rfl
def atT (l : List Tn) (i : Nat) : Tn := l[i]?.getD (0, 0)
theorem atT_some {l : List Tn} {i : Nat} (h : i < l.length) : l[i]? = some (atT l i) := by
  unfold atT; rw [List.getElem?_eq_getElem h]; rfl
theorem atT_of {l : List Tn} {i : Nat} {x : Tn} (h : l[i]? = some x) : atT l i = x := by unfold atT; rw [h]; rfl
def swapL (l : List Tn) (i j : Nat) : List Tn := (l.set i (atT l j)).set j (atT l i)
theorem swapL_len (l : List Tn) (i j : Nat) : (swapL l i j).length = l.length := by unfold swapL; rw [List.length_set, List.length_set]
theorem atT_set {l : List Tn} {i : Nat} (hi : i < l.length) (x : Tn) (k : Nat) : atT (l.set i x) k = if k = i then x else atT l k := by
  unfold atT
  by_cases h : k = i
  · subst h; rw [if_pos rfl, List.getElem?_set_self hi]; rfl
  · rw [if_neg h, List.getElem?_set_ne (Ne.symm h)]
theorem atT_swap {l : List Tn} {i j : Nat} (hi : i < l.length) (hj : j < l.length) (k : Nat) : atT (swapL l i j) k = if k = j then atT l i else if k = i then atT l j else atT l k := by
  unfold swapL
  rw [atT_set (by rw [List.length_set]; exact hj), atT_set hi]
theorem swap_perm {l : List Tn} {i j : Nat} (hi : i < l.length) (hj : j < l.length) : (swapL l i j).Perm l := by
  have h := Array.swap_perm (xs := l.toArray) (i := i) (j := j) (by simpa using hi) (by simpa using hj)
  have h2 := Array.perm_iff_toList_perm.1 h
  have e : (l.toArray.swap i j (by simpa using hi) (by simpa using hj)).toList = swapL l i j := by
    rw [Array.swap_def]
    unfold swapL
    have ei : atT l i = l[i] := by unfold atT; rw [List.getElem?_eq_getElem hi]; rfl
    have ej : atT l j = l[j] := by unfold atT; rw [List.getElem?_eq_getElem hj]; rfl
    simp [ei, ej]
  rw [e] at h2
  exact h2
def HeapTo (l : List Tn) (n : Nat) : Prop := ∀ j, 0 < j → j < n → ltT (atT l j) (atT l ((j - 1) / 2)) = false
def UpInv (l : List Tn) (n k : Nat) : Prop := (∀ j, 0 < j → j < n → j ≠ k → ltT (atT l j) (atT l ((j - 1) / 2)) = false) ∧ ∀ j, 0 < j → j < n → 0 < k → (j - 1) / 2 = k → ltT (atT l j) (atT l ((k - 1) / 2)) = false
def DownInv (l : List Tn) (n k : Nat) : Prop := (∀ j, 0 < j → j < n → (j - 1) / 2 ≠ k → ltT (atT l j) (atT l ((j - 1) / 2)) = false) ∧ ∀ j, 0 < j → j < n → 0 < k → (j - 1) / 2 = k → ltT (atT l j) (atT l ((k - 1) / 2)) = false
theorem lt_asym {a b : Tn} (h : ltT a b = true) : ltT b a = false := by
  rw [ltT_yes] at h; rw [ltT_no]; omega
theorem lt_mid {a b c : Tn} (h : ltT a c = false) (h2 : ltT b c = true) : ltT a b = false := by
  rw [ltT_no] at h; rw [ltT_yes] at h2; rw [ltT_no]; omega
theorem lt_negtr {a b c : Tn} (h : ltT a b = false) (h2 : ltT b c = false) : ltT a c = false := by
  rw [ltT_no] at h h2; rw [ltT_no]; omega
theorem up_stop0 {l : List Tn} {n : Nat} (h : UpInv l n 0) : HeapTo l n := fun j h0 hn => h.1 j h0 hn (by omega)
theorem up_stop {l : List Tn} {n k : Nat} (h : UpInv l n k) (hl : ltT (atT l k) (atT l ((k - 1) / 2)) = false) : HeapTo l n := fun j h0 hn => by
  by_cases e : j = k
  · subst e; exact hl
  · exact h.1 j h0 hn e
theorem up_next {l : List Tn} {n k : Nat} (h : UpInv l n k) (hk : 0 < k) (hkn : k < n) (hn : n ≤ l.length) (hl : ltT (atT l k) (atT l ((k - 1) / 2)) = true) : UpInv (swapL l ((k - 1) / 2) k) n ((k - 1) / 2) := by
  obtain ⟨i, hi⟩ : ∃ i, i = (k - 1) / 2 := ⟨_, rfl⟩
  rw [← hi] at hl ⊢
  have hik : i < k := by omega
  have A := fun m => atT_swap (l := l) (i := i) (j := k) (by omega) (by omega) m
  constructor
  · intro j h0 hj hji
    rw [A, A]
    by_cases hjk : j = k
    · rw [if_pos hjk, ← (show i = (j - 1) / 2 by rw [hjk]; exact hi), if_neg (by omega), if_pos rfl]
      exact lt_asym hl
    · rw [if_neg hjk, if_neg hji]
      by_cases hq : (j - 1) / 2 = k
      · rw [if_pos hq]
        have := h.2 j h0 hj hk hq
        rwa [← hi] at this
      · rw [if_neg hq]
        have h1 := h.1 j h0 hj hjk
        by_cases hq2 : (j - 1) / 2 = i
        · rw [if_pos hq2]
          rw [hq2] at h1
          exact lt_mid h1 hl
        · rw [if_neg hq2]; exact h1
  · intro j h0 hj hi0 hq
    rw [A, A]
    have hp := h.1 i hi0 (by omega) (by omega)
    rw [if_neg (show ¬ (i - 1) / 2 = k by omega), if_neg (show ¬ (i - 1) / 2 = i by omega)]
    by_cases hjk : j = k
    · rw [if_pos hjk]; exact hp
    · rw [if_neg hjk, if_neg (show ¬ j = i by omega)]
      have h1 := h.1 j h0 hj hjk
      rw [hq] at h1
      exact lt_negtr h1 hp
theorem up_start {l : List Tn} (x : Tn) (h : HeapTo l l.length) : UpInv (l ++ [x]) (l.length + 1) l.length := by
  have A : ∀ m, m < l.length → atT (l ++ [x]) m = atT l m := fun m hm => by unfold atT; rw [List.getElem?_append_left hm]
  constructor
  · intro j h0 hj hjl
    rw [A j (by omega), A _ (by omega)]
    exact h j h0 (by omega)
  · intro j h0 hj hk hq
    omega
theorem down_stop0 {l : List Tn} {n k : Nat} (h : DownInv l n k) (hk : n ≤ 2 * k + 1) : HeapTo l n := fun j h0 hn => h.1 j h0 hn (by omega)
theorem down_stop {l : List Tn} {n k c : Nat} (h : DownInv l n k) (hc : c = 2 * k + 1 ∨ c = 2 * k + 2) (ho : ∀ d, d < n → (d = 2 * k + 1 ∨ d = 2 * k + 2) → ltT (atT l d) (atT l c) = false) (hl : ltT (atT l c) (atT l k) = false) : HeapTo l n := fun j h0 hn => by
  by_cases e : (j - 1) / 2 = k
  · rw [e]; exact lt_negtr (ho j hn (by omega)) hl
  · exact h.1 j h0 hn e
theorem down_next {l : List Tn} {n k c : Nat} (h : DownInv l n k) (hc : c = 2 * k + 1 ∨ c = 2 * k + 2) (hcn : c < n) (hn : n ≤ l.length) (ho : ∀ d, d < n → (d = 2 * k + 1 ∨ d = 2 * k + 2) → ltT (atT l d) (atT l c) = false) (hl : ltT (atT l c) (atT l k) = true) : DownInv (swapL l k c) n c := by
  have A := fun m => atT_swap (l := l) (i := k) (j := c) (by omega) (by omega) m
  have hck : (c - 1) / 2 = k := by omega
  constructor
  · intro j h0 hj hjc
    rw [A, A]
    rw [if_neg hjc]
    by_cases hj1 : j = c
    · rw [if_pos hj1, hj1, hck, if_pos rfl]; exact lt_asym hl
    · rw [if_neg hj1]
      by_cases hjk : j = k
      · have hq : ¬ (j - 1) / 2 = k := by omega
        rw [if_pos hjk, if_neg hq]
        subst hjk
        exact h.2 c (by omega) hcn h0 hck
      · rw [if_neg hjk]
        by_cases hq : (j - 1) / 2 = k
        · rw [if_pos hq]; exact ho j hj (by omega)
        · rw [if_neg hq]; exact h.1 j h0 hj hq
  · intro j h0 hj hc0 hq
    rw [A, A]
    rw [if_neg (show ¬ j = c by omega), if_neg (show ¬ j = k by omega), hck, if_neg (show ¬ k = c by omega), if_pos rfl]
    have := h.1 j h0 hj (by omega)
    rw [hq] at this
    exact this
theorem heap_min {l : List Tn} {n : Nat} (h : HeapTo l n) : ∀ j, j < n → ltT (atT l j) (atT l 0) = false := by
  intro j
  induction j using Nat.strongRecOn with
  | ind j ih =>
    intro hj
    rcases Nat.eq_zero_or_pos j with h0 | h0
    · subst h0; rw [ltT_no]; omega
    · exact lt_negtr (h j h0 hj) (ih ((j - 1) / 2) (by omega) (by omega))
theorem down_start {l : List Tn} {n : Nat} (h : HeapTo l (n + 1)) (hn : l.length = n + 1) : DownInv (swapL l 0 n) n 0 := by
  have A := fun m => atT_swap (l := l) (i := 0) (j := n) (by omega) (by omega) m
  constructor
  · intro j h0 hj hq
    rw [A, A, if_neg (by omega), if_neg (by omega), if_neg (by omega), if_neg hq]
    exact h j h0 (by omega)
  · intro j _ _ h0; omega
theorem swap_behind {l : List Tn} {i j n : Nat} (hi : i < n) (hj : j < n) (hn : n ≤ l.length) (k : Nat) (hk : n ≤ k) : atT (swapL l i j) k = atT l k := by
  rw [atT_swap (by omega) (by omega), if_neg (by omega), if_neg (by omega)]
theorem take_heap {l : List Tn} {n : Nat} (h : HeapTo l n) (hn : n ≤ l.length) : HeapTo (l.take n) n := fun j h0 hj => by
  have A : ∀ m, m < n → atT (l.take n) m = atT l m := fun m hm => by unfold atT; rw [List.getElem?_take_of_lt hm]
  rw [A _ hj, A _ (by omega)]; exact h j h0 hj
theorem take_last {l : List Tn} {n : Nat} (hn : l.length = n + 1) : l = l.take n ++ [atT l n] := by
  have h := List.take_append_drop n l
  have hd : l.drop n = [atT l n] := by
    rw [List.drop_eq_getElem_cons (by omega)]
    have e : atT l n = l[n] := by unfold atT; rw [List.getElem?_eq_getElem (by omega)]; rfl
    rw [e, List.drop_of_length_le (by omega)]
  rw [hd] at h
  exact h.symm
end Go.Proofs.Ytmggggijamligaa
