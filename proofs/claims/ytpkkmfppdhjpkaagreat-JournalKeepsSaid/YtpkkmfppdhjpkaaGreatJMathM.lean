import Derived.Test.YtpkkmfppdhjpkaaGreatGa31

/- Lists by their names, rising: the document's place, and what is kept; logs that are torn anywhere. -/
namespace Go.Proofs.YtpkkmfppdhjpkaaGreat
set_option linter.unusedVariables false

theorem snocRec {α : Type} {motive : List α → Prop} (nil : motive []) (snoc : ∀ xs x, motive xs → motive (xs ++ [x])) (xs : List α) : motive xs := by
  have : ∀ n (xs : List α), xs.length = n → motive xs := by
    intro n
    induction n with
    | zero => intro xs h; rw [List.length_eq_zero_iff.1 h]; exact nil
    | succ n ih =>
      intro xs h
      rcases List.eq_nil_or_concat xs with e | ⟨l, x, e⟩
      · subst e; exact nil
      · subst e; rw [List.concat_eq_append] at h ⊢; exact snoc l x (ih l (by simp at h; exact h))
  exact this _ xs rfl

section
variable {α β : Type} (k : α → Int)
/-- One round of the document's put. -/
def putStep (x : α) (s : List α × Bool) (y : α) : List α × Bool :=
  ((if !s.2 && decide (k x ≤ k y) then s.1 ++ [x] else s.1) ++ (if k y ≠ k x then [y] else []), s.2 || decide (k x ≤ k y))
def putEnd (x : α) (s : List α × Bool) : List α := if s.2 = true then s.1 else s.1 ++ [x]
def placeG (x : α) (l : List α) : List α := putEnd x (l.foldl (putStep k x) ([], false))
def placeR (x : α) : List α → List α
  | [] => [x]
  | y :: l => if k x ≤ k y then x :: (y :: l).filter (fun z => decide (k z ≠ k x)) else y :: placeR x l
theorem put_done (x : α) : ∀ (l : List α) (out : List α), l.foldl (putStep k x) (out, true) = (out ++ l.filter (fun z => decide (k z ≠ k x)), true)
  | [], out => by simp
  | y :: l, out => by
    rw [List.foldl_cons]
    have : putStep k x (out, true) y = (out ++ (if k y ≠ k x then [y] else []), true) := by simp [putStep]
    rw [this, put_done x l]
    by_cases h : k y = k x <;> simp [h]
theorem put_not (x : α) : ∀ (l : List α) (out : List α), putEnd x (l.foldl (putStep k x) (out, false)) = out ++ placeR k x l
  | [], out => by simp [putEnd, placeR]
  | y :: l, out => by
    rw [List.foldl_cons]
    by_cases h : k x ≤ k y
    · have e : putStep k x (out, false) y = (out ++ [x] ++ (if k y ≠ k x then [y] else []), true) := by simp [putStep, h]
      rw [e, put_done]
      simp only [putEnd, placeR, h, if_true]
      by_cases h2 : k y = k x <;> simp [h2]
    · have hne : k y ≠ k x := by omega
      have e : putStep k x (out, false) y = (out ++ [y], false) := by simp [putStep, h, hne]
      rw [e, put_not x l]
      simp [placeR, h]
theorem place_eq (x : α) (l : List α) : placeG k x l = placeR k x l := by
  unfold placeG; rw [put_not]; simp
def Up (l : List α) : Prop := l.Pairwise fun a b => k a < k b
theorem place_mem (x : α) : ∀ (l : List α), Up k l → ∀ y, y ∈ placeR k x l ↔ y = x ∨ (y ∈ l ∧ k y ≠ k x)
  | [], _, y => by simp [placeR]
  | z :: l, h, y => by
    obtain ⟨h1, h2⟩ := List.pairwise_cons.1 h
    unfold placeR
    by_cases hx : k x ≤ k z
    · rw [if_pos hx, List.mem_cons, List.mem_filter]; simp
    · rw [if_neg hx, List.mem_cons, place_mem x l h2 y, List.mem_cons]
      constructor
      · rintro (rfl | rfl | h)
        · exact .inr ⟨.inl rfl, by omega⟩
        · exact .inl rfl
        · exact .inr ⟨.inr h.1, h.2⟩
      · rintro (rfl | ⟨rfl | h, h'⟩)
        · exact .inr (.inl rfl)
        · exact .inl rfl
        · exact .inr (.inr ⟨h, h'⟩)
theorem place_up (x : α) : ∀ (l : List α), Up k l → Up k (placeR k x l)
  | [], _ => by simp [placeR, Up]
  | z :: l, h => by
    obtain ⟨h1, h2⟩ := List.pairwise_cons.1 h
    unfold placeR
    by_cases hx : k x ≤ k z
    · rw [if_pos hx]
      refine List.pairwise_cons.2 ⟨fun y hy => ?_, (List.Pairwise.filter _ h)⟩
      obtain ⟨hy, hne⟩ := List.mem_filter.1 hy
      have hne := of_decide_eq_true hne
      rcases List.mem_cons.1 hy with rfl | hy
      · omega
      · have := h1 y hy; omega
    · rw [if_neg hx]
      refine List.pairwise_cons.2 ⟨fun y hy => ?_, place_up x l h2⟩
      rcases (place_mem k x l h2 y).1 hy with rfl | ⟨hy, _⟩
      · omega
      · exact h1 y hy
def keptG (xs : List α) : List α := xs.foldl (fun l x => placeG k x l) []
theorem kept_snoc (xs : List α) (x : α) : keptG k (xs ++ [x]) = placeR k x (keptG k xs) := by simp [keptG, place_eq]
theorem kept_up (xs : List α) : Up k (keptG k xs) := by
  induction xs using snocRec with
  | nil => simp [keptG, Up]
  | snoc xs x ih => rw [kept_snoc]; exact place_up k x _ ih
def lookG (xs : List α) (i : Int) : Option α := xs.foldl (fun acc x => if k x = i then some x else acc) none
theorem look_snoc (xs : List α) (x : α) (i : Int) : lookG k (xs ++ [x]) i = if k x = i then some x else lookG k xs i := by simp [lookG]
theorem look_nil (i : Int) : lookG k ([] : List α) i = none := rfl
theorem kept_mem (xs : List α) : ∀ y, y ∈ keptG k xs ↔ lookG k xs (k y) = some y := by
  induction xs using snocRec with
  | nil => intro y; simp [keptG, lookG]
  | snoc xs x ih =>
    intro y
    rw [kept_snoc, place_mem k x _ (kept_up k xs), look_snoc, ih y]
    by_cases h : k x = k y
    · simp [h, eq_comm]
    · rw [if_neg h]
      constructor
      · rintro (rfl | ⟨h1, _⟩)
        · exact absurd rfl h
        · exact h1
      · intro h1; exact .inr ⟨h1, fun e => h e.symm⟩
theorem look_key (xs : List α) : ∀ i x, lookG k xs i = some x → k x = i ∧ x ∈ xs := by
  induction xs using snocRec with
  | nil => intro i x h; simp [lookG] at h
  | snoc xs y ih =>
    intro i x h
    rw [look_snoc] at h
    by_cases hy : k y = i
    · rw [if_pos hy] at h; cases h; exact ⟨hy, by simp⟩
    · rw [if_neg hy] at h; have := ih i x h; exact ⟨this.1, by simp [this.2]⟩
theorem up_same : ∀ (a b : List α), Up k a → Up k b → (∀ y, y ∈ a ↔ y ∈ b) → a = b
  | [], [], _, _, _ => rfl
  | [], y :: b, _, _, h => by have := (h y).2 (by simp); simp at this
  | y :: a, [], _, _, h => by have := (h y).1 (by simp); simp at this
  | x :: a, y :: b, ha, hb, h => by
    obtain ⟨a1, a2⟩ := List.pairwise_cons.1 ha
    obtain ⟨b1, b2⟩ := List.pairwise_cons.1 hb
    have hxy : x = y := by
      have h1 := (h x).1 (by simp)
      have h2 := (h y).2 (by simp)
      rcases List.mem_cons.1 h1 with e | h1
      · exact e
      · rcases List.mem_cons.1 h2 with e | h2
        · exact e.symm
        · have := b1 x h1; have := a1 y h2; omega
    subst hxy
    congr 1
    refine up_same a b a2 b2 fun z => ⟨fun hz => ?_, fun hz => ?_⟩
    · rcases List.mem_cons.1 ((h z).1 (by simp [hz])) with e | h'
      · subst e; have := a1 z hz; omega
      · exact h'
    · rcases List.mem_cons.1 ((h z).2 (by simp [hz])) with e | h'
      · subst e; have := b1 z hz; omega
      · exact h'
theorem place_map {k' : β → Int} (g : α → β) (hg : ∀ y, k' (g y) = k y) (x : α) : ∀ l : List α, (placeR k x l).map g = placeR k' (g x) (l.map g)
  | [] => rfl
  | y :: l => by
    unfold placeR
    rw [List.map_cons]
    by_cases h : k x ≤ k y
    · rw [if_pos h]
      simp only [hg, h, if_true, List.map_cons]
      congr 1
      rw [show g y :: List.map g l = (y :: l).map g from rfl, List.filter_map]
      congr 1
      apply List.filter_congr
      intro z _; simp [hg]
    · rw [if_neg h]
      simp only [hg, h, if_false, List.map_cons]
      rw [place_map g hg x l]
theorem kept_map {k' : β → Int} (g : α → β) (hg : ∀ y, k' (g y) = k y) (xs : List α) : (keptG k xs).map g = keptG k' (xs.map g) := by
  induction xs using snocRec with
  | nil => rfl
  | snoc xs x ih => rw [kept_snoc, place_map k g hg, ih, List.map_append, List.map_singleton, kept_snoc]
theorem kept_nil_iff (xs : List α) : keptG k xs = [] ↔ xs = [] := by
  constructor
  · intro h
    rcases List.eq_nil_or_concat xs with e | ⟨l, x, e⟩
    · exact e
    · subst e
      have : x ∈ keptG k (l ++ [x]) := by rw [kept_mem, look_snoc]; simp
      rw [List.concat_eq_append] at h
      rw [h] at this; simp at this
  · rintro rfl; rfl
end

theorem frames_take_le (ls : List (List UInt8)) {m n : Nat} (h : m ≤ n) : (framesB (ls.take m)).length ≤ (framesB (ls.take n)).length := by
  obtain ⟨d, rfl⟩ := Nat.exists_eq_add_of_le h
  rw [List.take_add]
  unfold framesB
  rw [List.flatMap_append, List.length_append]
  omega
theorem frames_take_lt (ls : List (List UInt8)) {m n : Nat} (h : m < n) (hn : n ≤ ls.length) : (framesB (ls.take m)).length < (framesB (ls.take n)).length := by
  have h1 := frames_take_le ls (show m + 1 ≤ n from h)
  have hm : ls[m]? = some ls[m] := List.getElem?_eq_getElem (by omega)
  have : ls.take (m + 1) = ls.take m ++ [ls[m]] := by rw [List.take_add_one, hm]; rfl
  rw [this, frames_snoc, List.length_append, frame_len] at h1
  omega
/-- However much of a log is left, its frames are those of a number of records. -/
theorem torn_any {ls : List (List UInt8)} (h : FineL ls) {k : Nat} (hk : k ≤ (framesB ls).length) : ∃ n, n ≤ ls.length ∧ scanN ((framesB ls).take k) = (ls.take n, (framesB (ls.take n)).length) ∧ (framesB (ls.take n)).length ≤ k ∧ (n < ls.length → k < (framesB (ls.take (n + 1))).length) := by
  have key : ∀ m, m ≤ ls.length → k < (framesB (ls.take m)).length → ∃ n, n < m ∧ (framesB (ls.take n)).length ≤ k ∧ k < (framesB (ls.take (n + 1))).length := by
    intro m
    induction m with
    | zero => intro _ h0; simp [framesB] at h0
    | succ m ih =>
      intro hm h1
      by_cases h2 : k < (framesB (ls.take m)).length
      · obtain ⟨n, a, b, c⟩ := ih (by omega) h2; exact ⟨n, by omega, b, c⟩
      · exact ⟨m, by omega, by omega, h1⟩
  by_cases hlt : k < (framesB ls).length
  · obtain ⟨n, h1, h2, h3⟩ := key ls.length (Nat.le_refl _) (by rw [List.take_length]; exact hlt)
    exact ⟨n, by omega, torn h h1 h2 h3, h2, fun _ => h3⟩
  · have : k = (framesB ls).length := by omega
    subst this
    refine ⟨ls.length, Nat.le_refl _, ?_, by rw [List.take_length]; exact Nat.le_refl _, fun h => absurd h (by omega)⟩
    rw [List.take_length, List.take_length]; exact whole_scan h
end Go.Proofs.YtpkkmfppdhjpkaaGreat
