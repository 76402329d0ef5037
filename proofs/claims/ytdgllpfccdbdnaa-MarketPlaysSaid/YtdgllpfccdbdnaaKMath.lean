/- A book as a list, as orders came, and its two sides, the first ones first. -/
import Derived.Test.YtdgllpfccdbdnaaKOps
namespace Go.Proofs.Ytdgllpfccdbdnaa
set_option linter.unusedVariables false
set_option linter.unusedSimpArgs false

/-- An order behind those of its side that it is not better than. -/
def insF (o : Od) (l : List Od) : List Od := l.filter (fun x => !isW o x) ++ o :: l.filter (isW o)
theorem ins_eq : ∀ {s : Int} {o : Od}, o.s = s → ∀ l : List Od, (∀ x ∈ l, x.s = s) → Sorted s l → insG l (l.findIdx (isW o)) o = insF o l
  | s, o, ho, [], _, _ => by simp [insG, insF]
  | s, o, ho, x :: xs, hx, h => by
    obtain ⟨h1, h2⟩ := List.pairwise_cons.1 h
    rcases hw : isW o x with _ | _
    · rw [ins_cons_miss hw, ins_eq ho xs (fun y hy => hx y (by simp [hy])) h2]
      simp [insF, hw]
    · rw [ins_cons_hit hw]
      have hall : ∀ y ∈ xs, isW o y = true := fun y hy => by
        have := h1 y hy
        unfold isW betterB at hw ⊢
        unfold betterB at this
        rw [ho] at hw ⊢
        split <;> simp_all <;> omega
      have e1 : xs.filter (isW o) = xs := List.filter_eq_self.2 hall
      have e2 : xs.filter (fun y => !isW o y) = [] := List.filter_eq_nil_iff.2 fun y hy => by simp [hall y hy]
      simp [insF, hw, e1, e2]
/-- A side's orders, the first one first. -/
def sideF (s : Int) : List Od → List Od := fun L => L.foldl (fun acc o => if o.s = s then insF o acc else acc) []
theorem side_nil (s : Int) : sideF s [] = [] := rfl
theorem side_snoc (s : Int) (L : List Od) (o : Od) : sideF s (L ++ [o]) = if o.s = s then insF o (sideF s L) else sideF s L := by
  simp [sideF, List.foldl_append]
theorem snoc_ind {P : List Od → Prop} (h0 : P []) (h : ∀ L o, P L → P (L ++ [o])) : ∀ L, P L := fun L => by
  have : ∀ M : List Od, P M.reverse := fun M => by
    induction M with
    | nil => exact h0
    | cons x M ih => rw [List.reverse_cons]; exact h _ _ ih
  have := this L.reverse
  rwa [List.reverse_reverse] at this
theorem mem_insF {o y : Od} {l : List Od} : y ∈ insF o l ↔ y = o ∨ y ∈ l := by
  unfold insF
  simp only [List.mem_append, List.mem_cons, List.mem_filter]
  rcases isW o y <;> simp <;> constructor <;> (intro h; rcases h with h | h <;> simp_all)
theorem mem_side {s : Int} {y : Od} : ∀ L, y ∈ sideF s L ↔ y ∈ L ∧ y.s = s := by
  refine snoc_ind (by simp [side_nil]) fun L o ih => ?_
  rw [side_snoc]
  split
  · rename_i h
    rw [mem_insF, ih]; simp only [List.mem_append, List.mem_singleton]
    constructor
    · rintro (rfl | ⟨h1, h2⟩); exact ⟨.inr rfl, h⟩; exact ⟨.inl h1, h2⟩
    · rintro ⟨h1 | rfl, h2⟩; exact .inr ⟨h1, h2⟩; exact .inl rfl
  · rename_i h
    rw [ih]; simp only [List.mem_append, List.mem_singleton]
    constructor
    · rintro ⟨h1, h2⟩; exact ⟨.inl h1, h2⟩
    · rintro ⟨h1 | rfl, h2⟩; exact ⟨h1, h2⟩; exact absurd h2 h
theorem sorted_insF {s : Int} {o : Od} (ho : o.s = s) {l : List Od} (hx : ∀ x ∈ l, x.s = s) (h : Sorted s l) : Sorted s (insF o l) := by
  rw [← ins_eq ho l hx h]; exact sorted_ins ho l h
theorem sorted_side {s : Int} : ∀ L, Sorted s (sideF s L) := by
  refine snoc_ind List.Pairwise.nil fun L o ih => ?_
  rw [side_snoc]
  split
  · rename_i h; exact sorted_insF h (fun x hx => ((mem_side L).1 hx).2) ih
  · exact ih
/-- In a list in order those that an order is better than stand behind. -/
theorem split_sorted {s : Int} {o : Od} (ho : o.s = s) {l : List Od} (hx : ∀ x ∈ l, x.s = s) (h : Sorted s l) : l.filter (fun x => !isW o x) ++ l.filter (isW o) = l := by
  induction l with
  | nil => rfl
  | cons x xs ih =>
    obtain ⟨h1, h2⟩ := List.pairwise_cons.1 h
    rcases hw : isW o x with _ | _
    · simp [hw]; exact ih (fun y hy => hx y (by simp [hy])) h2
    · have hall : ∀ y ∈ xs, isW o y = true := fun y hy => by
        have := h1 y hy
        unfold isW betterB at hw ⊢
        unfold betterB at this
        rw [ho] at hw ⊢
        split <;> simp_all <;> omega
      have e1 : xs.filter (isW o) = xs := List.filter_eq_self.2 hall
      have e2 : xs.filter (fun y => !isW o y) = [] := List.filter_eq_nil_iff.2 fun y hy => by simp [hall y hy]
      simp [hw, e1, e2]
theorem filter_insF {s : Int} {o : Od} (ho : o.s = s) {l : List Od} (hx : ∀ x ∈ l, x.s = s) (h : Sorted s l) (p : Od → Bool) : (insF o l).filter p = if p o then insF o (l.filter p) else l.filter p := by
  unfold insF
  rw [List.filter_append, List.filter_cons, List.filter_filter, List.filter_filter]
  split
  · rw [List.filter_filter, List.filter_filter]
    congr 1
    · apply List.filter_congr; intro x _; exact Bool.and_comm _ _
    · congr 1; apply List.filter_congr; intro x _; exact Bool.and_comm _ _
  · conv => rhs; rw [← split_sorted ho hx h]
    rw [List.filter_append, List.filter_filter, List.filter_filter]
theorem side_filter {s : Int} (p : Od → Bool) : ∀ L, sideF s (L.filter p) = (sideF s L).filter p := by
  refine snoc_ind rfl fun L o ih => ?_
  rw [List.filter_append, side_snoc]
  rcases hp : p o with _ | _
  · simp only [List.filter_cons, hp, List.filter_nil, List.append_nil, Bool.false_eq_true, if_false]
    rw [ih]
    split
    · rename_i h; rw [filter_insF h (fun x hx => ((mem_side L).1 hx).2) (sorted_side L), hp]; rfl
    · rfl
  · simp only [List.filter_cons, hp, List.filter_nil, if_true]
    rw [side_snoc, ih]
    split
    · rename_i h; rw [filter_insF h (fun x hx => ((mem_side L).1 hx).2) (sorted_side L), hp]; rfl
    · rfl
/-- What turns neither side nor price. -/
theorem map_insF {f : Od → Od} (hf : ∀ x, (f x).s = x.s ∧ (f x).p = x.p) (o : Od) (l : List Od) : (insF o l).map f = insF (f o) (l.map f) := by
  unfold insF
  have e : ∀ x, isW (f o) (f x) = isW o x := fun x => by unfold isW; rw [(hf o).1, (hf o).2, (hf x).2]
  rw [List.map_append, List.map_cons, List.filter_map, List.filter_map]
  congr 1
  · congr 1; apply List.filter_congr; intro x _; simp [e]
  · congr 2; apply List.filter_congr; intro x _; simp [e]
theorem side_map {s : Int} {f : Od → Od} (hf : ∀ x, (f x).s = x.s ∧ (f x).p = x.p) : ∀ L, sideF s (L.map f) = (sideF s L).map f := by
  refine snoc_ind rfl fun L o ih => ?_
  rw [List.map_append, List.map_singleton, side_snoc, side_snoc, (hf o).1]
  split
  · rw [ih, map_insF hf]
  · exact ih
/-- How many. -/
theorem len_insF (o : Od) (l : List Od) : (insF o l).length = l.length + 1 := by
  unfold insF
  have : (l.filter (fun x => !isW o x)).length + (l.filter (isW o)).length = l.length := by
    induction l with
    | nil => rfl
    | cons x xs ih => rcases hw : isW o x <;> simp [hw] <;> omega
  simp; omega
theorem len_side : ∀ L, (∀ x ∈ L, x.s = 0 ∨ x.s = 1) → (sideF 0 L).length + (sideF 1 L).length = L.length := by
  refine snoc_ind (fun _ => rfl) fun L o ih h => ?_
  have h1 := ih fun x hx => h x (by simp [hx])
  have h2 := h o (by simp)
  rw [side_snoc, side_snoc, List.length_append, List.length_singleton]
  rcases h2 with h2 | h2
  · rw [if_pos h2, if_neg (by omega), len_insF]; omega
  · rw [if_neg (by omega), if_pos h2, len_insF]; omega

/-- Each name once. -/
def UniqI (l : List Od) : Prop := l.Pairwise fun a b => a.i ≠ b.i
theorem uniq_at {l : List Od} (h : UniqI l) {j k : Nat} {x y : Od} (hj : l[j]? = some x) (hk : l[k]? = some y) (e : x.i = y.i) : j = k := by
  obtain ⟨h1, rfl⟩ := List.getElem?_eq_some_iff.1 hj
  obtain ⟨h2, rfl⟩ := List.getElem?_eq_some_iff.1 hk
  unfold UniqI at h
  rw [List.pairwise_iff_getElem] at h
  rcases Nat.lt_trichotomy j k with h3 | h3 | h3
  · exact absurd e (h j k h1 h2 h3)
  · exact h3
  · exact absurd e.symm (h k j h2 h1 h3)
theorem uniq_mem {l : List Od} (h : UniqI l) {x y : Od} (hx : x ∈ l) (hy : y ∈ l) (e : x.i = y.i) : x = y := by
  obtain ⟨j, hj⟩ := List.mem_iff_getElem?.1 hx
  obtain ⟨k, hk⟩ := List.mem_iff_getElem?.1 hy
  have := uniq_at h hj hk e
  subst this
  rw [hj] at hk; exact Option.some.inj hk
/-- Without a name; with so much left of it. -/
abbrev rmI (i : Int) (l : List Od) : List Od := l.filter fun x => !isI i x
abbrev seI (i q : Int) (x : Od) : Od := if x.i = i then { x with n := q } else x
theorem less_rm : ∀ {l : List Od} {k : Nat} {x : Od}, UniqI l → l[k]? = some x → less l k = rmI x.i l
  | [], k, x, _, h => by simp at h
  | y :: ys, 0, x, hu, h => by
    obtain rfl : y = x := by simpa using h
    obtain ⟨h1, h2⟩ := List.pairwise_cons.1 hu
    have : ys.filter (fun z => !isI y.i z) = ys := List.filter_eq_self.2 fun z hz => by have := h1 z hz; simp [isI]; exact fun e => this e.symm
    have e : (y :: ys).filter (fun z => !isI y.i z) = ys.filter (fun z => !isI y.i z) := by simp [isI]
    show [] ++ ys = _
    rw [rmI, e, this]; rfl
  | y :: ys, k + 1, x, hu, h => by
    obtain ⟨h1, h2⟩ := List.pairwise_cons.1 hu
    have hk : ys[k]? = some x := by simpa using h
    have hne : y.i ≠ x.i := h1 x (List.mem_of_getElem? hk)
    have := less_rm h2 hk
    simp only [less, List.take_succ_cons, List.drop_succ_cons, List.cons_append] at this ⊢
    rw [this]
    simp [rmI, isI, List.filter_cons, hne]
theorem set_se : ∀ {l : List Od} {k : Nat} {x : Od} (q : Int), UniqI l → l[k]? = some x → l.set k { x with n := q } = l.map (seI x.i q)
  | [], k, x, q, _, h => by simp at h
  | y :: ys, 0, x, q, hu, h => by
    obtain rfl : y = x := by simpa using h
    obtain ⟨h1, h2⟩ := List.pairwise_cons.1 hu
    have : ys.map (seI y.i q) = ys := by
      conv => rhs; rw [← List.map_id ys]
      apply List.map_congr_left; intro z hz
      have := h1 z hz
      unfold seI; rw [if_neg (fun e => this e.symm)]; rfl
    simp [this]
  | y :: ys, k + 1, x, q, hu, h => by
    obtain ⟨h1, h2⟩ := List.pairwise_cons.1 hu
    have hk : ys[k]? = some x := by simpa using h
    have hne : y.i ≠ x.i := h1 x (List.mem_of_getElem? hk)
    rw [List.set_cons_succ, List.map_cons, set_se q h2 hk]
    simp [hne]
theorem uniq_filter {l : List Od} (h : UniqI l) (p : Od → Bool) : UniqI (l.filter p) := List.Pairwise.filter p h
theorem uniq_map {l : List Od} (h : UniqI l) {f : Od → Od} (hf : ∀ x, (f x).i = x.i) : UniqI (l.map f) := by
  unfold UniqI at h ⊢
  rw [List.pairwise_map]
  exact h.imp fun {a b} hab => by rw [hf, hf]; exact hab
theorem uniq_snoc {l : List Od} {o : Od} (h : UniqI l) (ho : ∀ x ∈ l, x.i ≠ o.i) : UniqI (l ++ [o]) := by
  unfold UniqI at h ⊢
  rw [List.pairwise_append]
  exact ⟨h, List.pairwise_singleton _ _, fun a ha b hb => by simp at hb; subst hb; exact ho a ha⟩
theorem uniq_insF {l : List Od} {o : Od} (h : UniqI l) (ho : ∀ x ∈ l, x.i ≠ o.i) : UniqI (insF o l) := by
  unfold insF UniqI
  rw [List.pairwise_append, List.pairwise_cons]
  refine ⟨List.Pairwise.filter _ h, ⟨fun b hb => ?_, List.Pairwise.filter _ h⟩, fun a ha b hb => ?_⟩
  · exact fun e => ho b (List.mem_filter.1 hb).1 e.symm
  · rcases List.mem_cons.1 hb with rfl | hb
    · exact ho a (List.mem_filter.1 ha).1
    · intro e
      have h1 := uniq_mem h (List.mem_filter.1 ha).1 (List.mem_filter.1 hb).1 e
      subst h1
      have h2 := (List.mem_filter.1 ha).2
      have h3 := (List.mem_filter.1 hb).2
      simp [h3] at h2
theorem uniq_side {s : Int} : ∀ L, UniqI L → UniqI (sideF s L) := by
  refine snoc_ind (fun _ => List.Pairwise.nil) fun L o ih hu => ?_
  unfold UniqI at hu
  rw [List.pairwise_append] at hu
  rw [side_snoc]
  split
  · exact uniq_insF (ih hu.1) fun x hx => hu.2.2 x ((mem_side L).1 hx).1 o (by simp)
  · exact ih hu.1
end Go.Proofs.Ytdgllpfccdbdnaa
