import Derived.Test.YtogoibigabpkhaaGreatG02
/- The mathematics of sets of commands: sorted by name, no name with two commands; what stands in them; that they are one list. -/
namespace Go.Proofs.YtogoibigabpkhaaGreat

def C7.same (a b : C7) : Bool := a.i == b.i && a.k == b.k && a.s == b.s && a.t == b.t && a.d == b.d && a.p == b.p && a.q == b.q
theorem C7.same_iff {a b : C7} : a.same b = true ↔ a = b := by
  obtain ⟨a1, a2, a3, a4, a5, a6, a7⟩ := a
  obtain ⟨b1, b2, b3, b4, b5, b6, b7⟩ := b
  unfold C7.same
  simp [and_assoc]
theorem C7.same_no {a b : C7} : a.same b = false ↔ a ≠ b := by
  rw [Ne, ← C7.same_iff]; simp
instance instDecC7 : DecidableEq C7 := fun a b => decidable_of_iff (a.same b = true) C7.same_iff
instance instInhC7 : Inhabited C7 := ⟨⟨0, 0, 0, 0, 0, 0, 0⟩⟩

/-- The names rise. -/
abbrev Rises (l : List C7) : Prop := l.Pairwise fun a b => a.i < b.i
theorem Rises.at {l : List C7} (h : Rises l) {a b : Nat} (hab : a < b) {x y : C7} (hx : l[a]? = some x) (hy : l[b]? = some y) : x.i < y.i := by
  obtain ⟨h1, rfl⟩ := List.getElem?_eq_some_iff.1 hx
  obtain ⟨h2, rfl⟩ := List.getElem?_eq_some_iff.1 hy
  exact List.pairwise_iff_getElem.1 h a b h1 h2 hab
theorem Rises.inj {l : List C7} (h : Rises l) {x y : C7} (hx : x ∈ l) (hy : y ∈ l) (hi : x.i = y.i) : x = y := by
  obtain ⟨a, ha⟩ := List.getElem?_of_mem hx
  obtain ⟨b, hb⟩ := List.getElem?_of_mem hy
  rcases Nat.lt_trichotomy a b with hab | hab | hab
  · have := h.at hab ha hb; omega
  · subst hab; rw [ha] at hb; exact Option.some.inj hb
  · have := h.at hab hb ha; omega
/-- Two lists whose names rise, with the same commands, are one. -/
theorem Rises.one : ∀ {l m : List C7}, Rises l → Rises m → (∀ x, x ∈ l ↔ x ∈ m) → l = m
  | [], [], _, _, _ => rfl
  | [], y :: m, _, _, h => absurd ((h y).2 (List.mem_cons_self ..)) (by simp)
  | x :: l, [], _, _, h => absurd ((h x).1 (List.mem_cons_self ..)) (by simp)
  | x :: l, y :: m, hl, hm, h => by
    have hx := (h x).1 (List.mem_cons_self ..)
    have hy := (h y).2 (List.mem_cons_self ..)
    obtain ⟨hl1, hl2⟩ := List.pairwise_cons.1 hl
    obtain ⟨hm1, hm2⟩ := List.pairwise_cons.1 hm
    have hxy : x = y := by
      rcases List.mem_cons.1 hx with e | e
      · exact e
      · rcases List.mem_cons.1 hy with e' | e'
        · exact e'.symm
        · have := hm1 _ e; have := hl1 _ e'; omega
    subst hxy
    congr 1
    refine Rises.one hl2 hm2 fun z => ⟨fun hz => ?_, fun hz => ?_⟩
    · rcases List.mem_cons.1 ((h z).1 (List.mem_cons_of_mem _ hz)) with e | e
      · subst e; have := hl1 _ hz; omega
      · exact e
    · rcases List.mem_cons.1 ((h z).2 (List.mem_cons_of_mem _ hz)) with e | e
      · subst e; have := hm1 _ hz; omega
      · exact e

/-- The place of a name. -/
def placeI (l : List C7) (id : Int) : Option Nat := l.findIdx? fun c => c.i == id
def placeV (l : List C7) (id : Int) : Int := match placeI l id with | some k => k | none => -1
theorem placeI_some {l : List C7} {id : Int} {k : Nat} (h : placeI l id = some k) : k < l.length ∧ ∃ c, l[k]? = some c ∧ c.i = id := by
  obtain ⟨hk, hp, _⟩ := List.findIdx?_eq_some_iff_getElem.1 h
  exact ⟨hk, l[k], List.getElem?_eq_getElem hk, by simpa using hp⟩
theorem placeI_none {l : List C7} {id : Int} (h : placeI l id = none) : ∀ c ∈ l, c.i ≠ id := by
  have := List.findIdx?_eq_none_iff.1 h
  intro c hc; simpa using this c hc
theorem placeI_first {l : List C7} {id : Int} {k : Nat} (h : ∀ j, j < k → ∀ c, l[j]? = some c → c.i ≠ id) {c : C7} (hc : l[k]? = some c) (hi : c.i = id) : placeI l id = some k := by
  obtain ⟨hk, rfl⟩ := List.getElem?_eq_some_iff.1 hc
  exact List.findIdx?_eq_some_iff_getElem.2 ⟨hk, by simpa using hi, fun j hj => by simpa using h j hj _ (List.getElem?_eq_getElem (by omega))⟩
theorem placeI_nowhere {l : List C7} {id : Int} (h : ∀ j, j < l.length → ∀ c, l[j]? = some c → c.i ≠ id) : placeI l id = none :=
  List.findIdx?_eq_none_iff.2 fun c hc => by
    obtain ⟨j, hj⟩ := List.getElem?_of_mem hc
    simpa using h j (List.getElem?_eq_some_iff.1 hj).1 c hj

/-- A command more, at its place; of one name the first one stays. -/
def putL (l : List C7) (c : C7) : List C7 := if (placeI l c.i).isSome then l else l.takeWhile (fun x => decide (x.i ≤ c.i)) ++ c :: l.dropWhile (fun x => decide (x.i ≤ c.i))
theorem putL_has {l : List C7} {c : C7} (h : (placeI l c.i).isSome = true) : putL l c = l := by unfold putL; rw [if_pos h]
theorem putL_mem {l : List C7} {c : C7} (h : placeI l c.i = none) (x : C7) : x ∈ putL l c ↔ x ∈ l ∨ x = c := by
  unfold putL; rw [h, if_neg (by simp)]
  have e : l.takeWhile (fun x => decide (x.i ≤ c.i)) ++ l.dropWhile (fun x => decide (x.i ≤ c.i)) = l := List.takeWhile_append_dropWhile
  constructor
  · intro hx
    rcases List.mem_append.1 hx with hx | hx
    · exact .inl (e ▸ List.mem_append_left _ hx)
    · rcases List.mem_cons.1 hx with hx | hx
      · exact .inr hx
      · exact .inl (e ▸ List.mem_append_right _ hx)
  · rintro (hx | rfl)
    · rw [← e] at hx
      rcases List.mem_append.1 hx with hx | hx
      · exact List.mem_append_left _ hx
      · exact List.mem_append_right _ (List.mem_cons_of_mem _ hx)
    · exact List.mem_append_right _ (List.mem_cons_self ..)
theorem putL_len (l : List C7) (c : C7) : (putL l c).length ≤ l.length + 1 := by
  unfold putL; split
  · omega
  · have e := congrArg List.length (List.takeWhile_append_dropWhile (p := fun x : C7 => decide (x.i ≤ c.i)) (l := l))
    rw [List.length_append] at e
    rw [List.length_append, List.length_cons]; omega
theorem dropWhile_gt {l : List C7} (h : Rises l) (n : Int) : ∀ x ∈ l.dropWhile (fun x => decide (x.i ≤ n)), n < x.i := by
  induction l with
  | nil => intro x hx; simp at hx
  | cons a l ih =>
    obtain ⟨h1, h2⟩ := List.pairwise_cons.1 h
    intro x hx
    rw [List.dropWhile_cons] at hx
    split at hx
    · exact ih h2 x hx
    · rename_i ha
      have ha' : n < a.i := by simpa using ha
      rcases List.mem_cons.1 hx with rfl | hx
      · exact ha'
      · have := h1 _ hx; omega
theorem takeWhile_le {l : List C7} {n : Int} : ∀ x ∈ l.takeWhile (fun x => decide (x.i ≤ n)), x.i ≤ n := by
  induction l with
  | nil => intro x hx; simp at hx
  | cons a l ih =>
    intro x hx
    rw [List.takeWhile_cons] at hx
    split at hx
    · rename_i ha
      rcases List.mem_cons.1 hx with rfl | hx
      · simpa using ha
      · exact ih x hx
    · simp at hx
theorem Rises.putL {l : List C7} (h : Rises l) (c : C7) : Rises (putL l c) := by
  unfold Go.Proofs.YtogoibigabpkhaaGreat.putL
  split
  · exact h
  · rename_i hn
    have hn' : placeI l c.i = none := by simpa using hn
    have e : l.takeWhile (fun x => decide (x.i ≤ c.i)) ++ l.dropWhile (fun x => decide (x.i ≤ c.i)) = l := List.takeWhile_append_dropWhile
    have h' : Rises (l.takeWhile (fun x => decide (x.i ≤ c.i)) ++ l.dropWhile (fun x => decide (x.i ≤ c.i))) := by rw [e]; exact h
    obtain ⟨p1, p2, p3⟩ := List.pairwise_append.1 h'
    have lt : ∀ x ∈ l.takeWhile (fun x => decide (x.i ≤ c.i)), x.i < c.i := fun x hx => by
      have h1 := takeWhile_le x hx
      have h2 := placeI_none hn' x (e ▸ List.mem_append_left _ hx)
      omega
    have gt := dropWhile_gt h c.i
    refine List.pairwise_append.2 ⟨p1, List.pairwise_cons.2 ⟨gt, p2⟩, fun x hx y hy => ?_⟩
    rcases List.mem_cons.1 hy with rfl | hy
    · exact lt x hx
    · exact p3 x hx y hy

/-- Two commands of one name, that are not the same. -/
def Clash (cs : List C7) : Prop := ∃ x ∈ cs, ∃ y ∈ cs, x.i = y.i ∧ x ≠ y
def clashB (cs : List C7) : Bool := cs.any fun x => cs.any fun y => x.i == y.i && !x.same y
theorem clash_iff {cs : List C7} : clashB cs = true ↔ Clash cs := by
  unfold clashB Clash
  simp only [List.any_eq_true, Bool.and_eq_true, beq_iff_eq, Bool.not_eq_true', C7.same_no]
theorem no_clash {cs : List C7} : clashB cs = false ↔ ∀ x ∈ cs, ∀ y ∈ cs, x.i = y.i → x = y := by
  rw [← Bool.not_eq_true, clash_iff]
  unfold Clash
  constructor
  · intro h x hx y hy hi
    by_cases he : x = y
    · exact he
    · exact absurd ⟨x, hx, y, hy, hi, he⟩ h
  · rintro h ⟨x, hx, y, hy, hi, hn⟩
    exact hn (h x hx y hy hi)

def setL (cs : List C7) : List C7 := cs.foldl putL []
theorem setL_snoc (cs : List C7) (c : C7) : setL (cs ++ [c]) = putL (setL cs) c := by simp [setL, List.foldl_append]
theorem setL_nil : setL [] = [] := rfl
theorem snoc_cases {P : List C7 → Prop} (h0 : P []) (h1 : ∀ cs c, P cs → P (cs ++ [c])) : ∀ cs, P cs := fun cs => by
  have : ∀ l : List C7, P l.reverse := fun l => by
    induction l with
    | nil => exact h0
    | cons a l ih => rw [List.reverse_cons]; exact h1 _ _ ih
  have h := this cs.reverse
  rwa [List.reverse_reverse] at h
theorem setL_rises (cs : List C7) : Rises (setL cs) := by
  refine snoc_cases (P := fun cs => Rises (setL cs)) (by simp [setL]) (fun cs c ih => ?_) cs
  rw [setL_snoc]; exact ih.putL c
theorem setL_len (cs : List C7) : (setL cs).length ≤ cs.length := by
  refine snoc_cases (P := fun cs => (setL cs).length ≤ cs.length) (by simp [setL]) (fun cs c ih => ?_) cs
  rw [setL_snoc]; have := putL_len (setL cs) c; simp; omega
theorem setL_mem {cs : List C7} (h : clashB cs = false) : ∀ x, x ∈ setL cs ↔ x ∈ cs := by
  have := no_clash.1 h
  revert this
  refine snoc_cases (P := fun cs => (∀ x ∈ cs, ∀ y ∈ cs, x.i = y.i → x = y) → ∀ x, x ∈ setL cs ↔ x ∈ cs) (by simp [setL]) (fun cs c ih h z => ?_) cs
  have ih' := ih fun x hx y hy => h x (List.mem_append_left _ hx) y (List.mem_append_left _ hy)
  rw [setL_snoc]
  rcases hp : placeI (setL cs) c.i with _ | k
  · rw [putL_mem hp, ih', List.mem_append, List.mem_singleton]
  · obtain ⟨_, d, hd, hi⟩ := placeI_some hp
    have hdm : d ∈ cs := (ih' d).1 (List.mem_of_getElem? hd)
    have hdc : d = c := h d (List.mem_append_left _ hdm) c (List.mem_append_right _ (List.mem_cons_self ..)) hi
    rw [putL_has (by simp [hp]), ih', List.mem_append, List.mem_singleton]
    exact ⟨.inl, fun hz => hz.elim id fun e => e ▸ hdc ▸ hdm⟩

def ofE (cs : List C7) : Int := if cs.all C7.ok = true then (if clashB cs = true then 6 else 0) else 1
def ofL (cs : List C7) : List C7 := if cs.all C7.ok = true then (if clashB cs = true then [] else setL cs) else []
theorem of_bad {cs : List C7} (h : cs.all C7.ok = false) : ofE cs = 1 ∧ ofL cs = [] := by unfold ofE ofL; simp [h]
theorem of_clash {cs : List C7} (h : cs.all C7.ok = true) (hc : clashB cs = true) : ofE cs = 6 ∧ ofL cs = [] := by unfold ofE ofL; simp [h, hc]
theorem of_fine {cs : List C7} (h : cs.all C7.ok = true) (hc : clashB cs = false) : ofE cs = 0 ∧ ofL cs = setL cs := by unfold ofE ofL; simp [h, hc]
theorem ofL_len (cs : List C7) : (ofL cs).length ≤ cs.length := by
  unfold ofL; split
  · split
    · simp
    · exact setL_len cs
  · simp
theorem of_zero {cs : List C7} (h : ofE cs = 0) : cs.all C7.ok = true ∧ clashB cs = false ∧ ofL cs = setL cs := by
  rcases h1 : cs.all C7.ok with _ | _
  · rw [(of_bad h1).1] at h; omega
  rcases h2 : clashB cs with _ | _
  · exact ⟨rfl, rfl, (of_fine h1 h2).2⟩
  · rw [(of_clash h1 h2).1] at h; omega
theorem of_wrong {cs : List C7} (h : ofE cs ≠ 0) : ofL cs = [] := by
  rcases h1 : cs.all C7.ok with _ | _
  · exact (of_bad h1).2
  rcases h2 : clashB cs with _ | _
  · exact absurd (of_fine h1 h2).1 h
  · exact (of_clash h1 h2).2

/-! What the document's loop does. -/
theorem take_snoc {cs : List C7} {k : Nat} {c : C7} (hc : cs[k]? = some c) : cs.take (k + 1) = cs.take k ++ [c] := by
  rw [List.take_add_one, hc]; rfl
theorem step_clash {cs : List C7} {k j : Nat} {c d : C7} (hc : cs[k]? = some c) (hn : clashB (cs.take k) = false) (hd : (setL (cs.take k))[j]? = some d) (hi : d.i = c.i) (hne : d.same c = false) : clashB cs = true := by
  have hdm : d ∈ cs.take k := (setL_mem hn d).1 (List.mem_of_getElem? hd)
  exact clash_iff.2 ⟨d, List.mem_of_mem_take hdm, c, List.mem_of_getElem? hc, hi, C7.same_no.1 hne⟩
theorem step_fine {cs : List C7} {k : Nat} {c : C7} (hc : cs[k]? = some c) (hn : clashB (cs.take k) = false) (h : ∀ j d, placeI (setL (cs.take k)) c.i = some j → (setL (cs.take k))[j]? = some d → d = c) :
    clashB (cs.take (k + 1)) = false ∧ setL (cs.take (k + 1)) = putL (setL (cs.take k)) c := by
  rw [take_snoc hc]
  refine ⟨no_clash.2 fun x hx y hy hi => ?_, setL_snoc _ _⟩
  have key : ∀ z ∈ cs.take k, z.i = c.i → z = c := fun z hz hzi => by
    have hzs := (setL_mem hn z).2 hz
    rcases hp : placeI (setL (cs.take k)) c.i with _ | j
    · exact absurd hzi (placeI_none hp z hzs)
    · obtain ⟨_, d, hd, hdi⟩ := placeI_some hp
      have hdc := h j d hp hd
      have : z = d := (setL_rises _).inj hzs (List.mem_of_getElem? hd) (by omega)
      rw [this, hdc]
  rcases List.mem_append.1 hx with hx1 | hx1 <;> rcases List.mem_append.1 hy with hy1 | hy1
  · exact no_clash.1 hn x hx1 y hy1 hi
  · rw [List.mem_singleton] at hy1; subst hy1; exact key x hx1 hi
  · rw [List.mem_singleton] at hx1; subst hx1; exact (key y hy1 hi.symm).symm
  · rw [List.mem_singleton] at hx1 hy1; rw [hx1, hy1]

/-! What the program's loop does, over the sorted list. -/
abbrev Sorted7 (s : List C7) : Prop := s.Pairwise fun a b => a.i ≤ b.i
/-- Behind k commands of a sorted list: their set. -/
structure Upto (s : List C7) (k : Nat) (set : List C7) : Prop where
  rises : Rises set
  mem : ∀ x, x ∈ set ↔ x ∈ s.take k
  len : set.length ≤ k
  last : set[set.length - 1]? = (s.take k)[k - 1]?
theorem Upto.start (s : List C7) : Upto s 0 [] := ⟨List.Pairwise.nil, by simp, by simp, by simp⟩
theorem Upto.below {s : List C7} {k : Nat} {set : List C7} (h : Upto s k set) (hs : Sorted7 s) {c : C7} (hc : s[k]? = some c) : ∀ x ∈ set, x.i ≤ c.i := fun x hx => by
  obtain ⟨j, hj⟩ := List.getElem?_of_mem ((h.mem x).1 hx)
  obtain ⟨hjl, rfl⟩ := List.getElem?_eq_some_iff.1 hj
  obtain ⟨hk, rfl⟩ := List.getElem?_eq_some_iff.1 hc
  simp at hjl
  rw [List.getElem_take]
  exact List.pairwise_iff_getElem.1 hs j k (by omega) hk (by omega)
theorem Upto.lastLe {s : List C7} {k : Nat} {set : List C7} (h : Upto s k set) {d : C7} (hd : set[set.length - 1]? = some d) : ∀ x ∈ set, x.i ≤ d.i := fun x hx => by
  obtain ⟨j, hj⟩ := List.getElem?_of_mem hx
  have hjl := (List.getElem?_eq_some_iff.1 hj).1
  by_cases e : j = set.length - 1
  · subst e; rw [hj] at hd; rw [Option.some.inj hd]; omega
  · have := h.rises.at (show j < set.length - 1 by omega) hj hd; omega
theorem Upto.add {s : List C7} {k : Nat} {set : List C7} (h : Upto s k set) (hs : Sorted7 s) {c : C7} (hc : s[k]? = some c) (hn : ∀ d, set[set.length - 1]? = some d → d.i ≠ c.i) : Upto s (k + 1) (set ++ [c]) := by
  have lt : ∀ x ∈ set, x.i < c.i := fun x hx => by
    have h1 := h.below hs hc x hx
    have hl : 0 < set.length := List.length_pos_of_mem hx
    have hd : set[set.length - 1]? = some set[set.length - 1] := List.getElem?_eq_getElem (by omega)
    have h2 := h.lastLe hd x hx
    have h3 := h.below hs hc _ (List.mem_of_getElem? hd)
    have h4 := hn _ hd
    omega
  refine ⟨List.pairwise_append.2 ⟨h.rises, List.pairwise_singleton .., fun x hx y hy => by rw [List.mem_singleton] at hy; subst hy; exact lt x hx⟩, fun x => ?_, by have := h.len; simp; omega, ?_⟩
  · rw [take_snoc hc, List.mem_append, List.mem_append, h.mem]
  · have hk := (List.getElem?_eq_some_iff.1 hc).1
    rw [take_snoc hc]
    simp [Nat.min_eq_left (Nat.le_of_lt hk)]
theorem Upto.stay {s : List C7} {k : Nat} {set : List C7} (h : Upto s k set) {c : C7} (hc : s[k]? = some c) (hd : set[set.length - 1]? = some c) : Upto s (k + 1) set := by
  refine ⟨h.rises, fun x => ?_, by have := h.len; omega, ?_⟩
  · rw [take_snoc hc, List.mem_append, ← h.mem, List.mem_singleton]
    exact ⟨.inl, fun hx => hx.elim id fun e => e ▸ List.mem_of_getElem? hd⟩
  · have hk := (List.getElem?_eq_some_iff.1 hc).1
    rw [hd, take_snoc hc]
    simp [Nat.min_eq_left (Nat.le_of_lt hk)]
theorem Upto.no {s : List C7} {k : Nat} {set : List C7} (h : Upto s k set) {c d : C7} (hc : s[k]? = some c) (hd : set[set.length - 1]? = some d) (hi : d.i = c.i) (hne : d.same c = false) : clashB s = true :=
  clash_iff.2 ⟨d, List.mem_of_mem_take ((h.mem d).1 (List.mem_of_getElem? hd)), c, List.mem_of_getElem? hc, hi, C7.same_no.1 hne⟩
theorem Upto.whole {s : List C7} {set : List C7} (h : Upto s s.length set) : clashB s = false ∧ set = setL s := by
  have hm : ∀ x, x ∈ set ↔ x ∈ s := fun x => by rw [h.mem, List.take_length]
  have hn : clashB s = false := no_clash.2 fun x hx y hy hi => h.rises.inj ((hm x).2 hx) ((hm y).2 hy) hi
  exact ⟨hn, h.rises.one (setL_rises s) fun x => by rw [hm, setL_mem hn]⟩
theorem clash_perm {a b : List C7} (h : ∀ x, x ∈ a ↔ x ∈ b) : clashB a = clashB b := by
  rw [Bool.eq_iff_iff, clash_iff, clash_iff]
  unfold Clash
  simp only [h]
theorem ok_perm {a b : List C7} (h : ∀ x, x ∈ a ↔ x ∈ b) : a.all C7.ok = b.all C7.ok := by
  rw [Bool.eq_iff_iff, List.all_eq_true, List.all_eq_true]
  simp only [h]
theorem set_perm {a b : List C7} (h : ∀ x, x ∈ a ↔ x ∈ b) (hn : clashB a = false) : setL a = setL b :=
  (setL_rises a).one (setL_rises b) fun x => by rw [setL_mem hn, setL_mem (clash_perm h ▸ hn), h]
theorem of_perm {a b : List C7} (h : ∀ x, x ∈ a ↔ x ∈ b) : ofE a = ofE b ∧ ofL a = ofL b := by
  unfold ofE ofL
  rw [ok_perm h, clash_perm h]
  refine ⟨rfl, ?_⟩
  split
  · split
    · rfl
    · rename_i hn
      exact set_perm h (by rw [clash_perm h]; simpa using hn)
  · rfl
/-- How the program's loop ends. -/
theorem Upto.fine {s cs : List C7} {set : List C7} (h : Upto s s.length set) (hp : ∀ x, x ∈ s ↔ x ∈ cs) (hok : cs.all C7.ok = true) : ofE cs = 0 ∧ ofL cs = set := by
  obtain ⟨h1, h2⟩ := h.whole
  have := of_fine (cs := s) (by rw [ok_perm hp]; exact hok) h1
  rw [← (of_perm hp).1, ← (of_perm hp).2, h2]
  exact this

/-! What is left, names, and whether a list is a set. -/
def minusL (a b : List C7) : List C7 := a.filter fun c => (placeI b c.i).isNone
theorem minus_keep {a b : List C7} {k : Nat} {c : C7} (hc : a[k]? = some c) (h : placeI b c.i = none) : minusL (a.take (k + 1)) b = minusL (a.take k) b ++ [c] := by
  unfold minusL; rw [take_snoc hc, List.filter_append]; simp [h]
theorem minus_drop {a b : List C7} {k j : Nat} {c : C7} (hc : a[k]? = some c) (h : placeI b c.i = some j) : minusL (a.take (k + 1)) b = minusL (a.take k) b := by
  unfold minusL; rw [take_snoc hc, List.filter_append]; simp [h]
theorem minus_len (a b : List C7) : (minusL a b).length ≤ a.length := List.length_filter_le ..
def idsL (l : List C7) : List Int := l.map C7.i
theorem ids_has {l : List C7} {id : Int} : (idsL l).contains id = (placeI l id).isSome := by
  rw [Bool.eq_iff_iff]
  unfold idsL
  simp only [List.contains_iff_mem, List.mem_map]
  constructor
  · rintro ⟨c, hc, rfl⟩
    rcases hp : placeI l c.i with _ | k
    · exact absurd rfl (placeI_none hp c hc)
    · rfl
  · intro h
    obtain ⟨k, hk⟩ := Option.isSome_iff_exists.1 h
    obtain ⟨_, c, hc, hi⟩ := placeI_some hk
    exact ⟨c, List.mem_of_getElem? hc, hi⟩
/-- The first k names rise. -/
def RiseTo (l : List C7) (k : Nat) : Prop := ∀ j, 1 ≤ j → j < k → ∀ x y, l[j - 1]? = some x → l[j]? = some y → x.i < y.i
theorem RiseTo.lt {l : List C7} : ∀ (b a : Nat), RiseTo l l.length → a < b → ∀ x y, l[a]? = some x → l[b]? = some y → x.i < y.i
  | 0, a, _, hab, _, _, _, _ => absurd hab (by omega)
  | b + 1, a, h, hab, x, y, hx, hy => by
    have hb := (List.getElem?_eq_some_iff.1 hy).1
    have hz : l[b]? = some l[b] := List.getElem?_eq_getElem (by omega)
    have h1 := h (b + 1) (by omega) hb _ _ hz hy
    by_cases e : a = b
    · subst e; rw [hx] at hz; rw [Option.some.inj hz]; exact h1
    · have := RiseTo.lt b a h (by omega) x _ hx hz; omega
theorem RiseTo.rises {l : List C7} (h : RiseTo l l.length) : Rises l :=
  List.pairwise_iff_getElem.2 fun a b ha hb hab => RiseTo.lt b a h hab _ _ (List.getElem?_eq_getElem ha) (List.getElem?_eq_getElem hb)
def risesB (l : List C7) : Bool := decide (Rises l)
theorem RiseTo.yes {l : List C7} (h : RiseTo l l.length) : risesB l = true := decide_eq_true h.rises
theorem rises_no {l : List C7} {k : Nat} {x y : C7} (hx : l[k - 1]? = some x) (hy : l[k]? = some y) (hk : 1 ≤ k) (h : y.i ≤ x.i) : risesB l = false :=
  decide_eq_false fun hr => by have := hr.at (show k - 1 < k by omega) hx hy; omega
def setB (l : List C7) : Bool := decide (l.length ≤ 1024) && l.all C7.ok && risesB l
theorem setB_of {cs : List C7} (h : ofE cs = 0) (hl : cs.length ≤ 1024) : setB (ofL cs) = true := by
  obtain ⟨h1, h2, h3⟩ := of_zero h
  rw [h3]
  unfold setB
  have hlen := setL_len cs
  rw [decide_eq_true (by omega), show (setL cs).all C7.ok = true from by rw [ok_perm (setL_mem h2)]; exact h1, show risesB (setL cs) = true from decide_eq_true (setL_rises cs)]
  rfl

/-! The law of sets. -/
theorem union_back (a b : List C7) : ofE (a ++ b) = ofE (b ++ a) ∧ ofL (a ++ b) = ofL (b ++ a) :=
  of_perm fun x => by rw [List.mem_append, List.mem_append]; exact or_comm
theorem union_mem {a b : List C7} (h : ofE (a ++ b) = 0) (x : C7) : x ∈ ofL (a ++ b) ↔ x ∈ a ∨ x ∈ b := by
  obtain ⟨_, h2, h3⟩ := of_zero h
  rw [h3, setL_mem h2, List.mem_append]
theorem union_rest {a b : List C7} (h : ofE (a ++ b) = 0) : ofE (minusL (ofL (a ++ b)) b ++ b) = 0 ∧ ofL (minusL (ofL (a ++ b)) b ++ b) = ofL (a ++ b) := by
  have hm : ∀ x, x ∈ minusL (ofL (a ++ b)) b ++ b ↔ x ∈ a ++ b := fun x => by
    rw [List.mem_append]
    unfold minusL
    rw [List.mem_filter, union_mem h, List.mem_append]
    constructor
    · rintro (⟨hx, _⟩ | hx)
      · exact hx
      · exact .inr hx
    · intro hx
      rcases hp : placeI b x.i with _ | k
      · exact .inl ⟨hx, by simp⟩
      · obtain ⟨_, d, hd, hi⟩ := placeI_some hp
        have hdb := List.mem_of_getElem? hd
        have := no_clash.1 (of_zero h).2.1 d (List.mem_append_right _ hdb) x (List.mem_append.2 hx) hi
        exact .inr (this ▸ hdb)
  have := of_perm hm
  exact ⟨this.1.trans h, this.2⟩
end Go.Proofs.YtogoibigabpkhaaGreat
