import Derived.Test.YtbcmhnaiabifjaaG01
import Derived.Laws.AppendOwn
import Derived.Laws.AppendOwnNone
import Derived.Laws.OwnMore
import Derived.OwnWalk
import Derived.WalkKit
namespace Go.Proofs.Ytbcmhnaiabifjaa
def C7.same (a b : C7) : Bool := a.i == b.i && a.k == b.k && a.s == b.s && a.t == b.t && a.d == b.d && a.p == b.p && a.q == b.q
theorem C7.same_iff {a b : C7} : a.same b = true ↔ a = b := by
  obtain ⟨a1, a2, a3, a4, a5, a6, a7⟩ := a
  obtain ⟨b1, b2, b3, b4, b5, b6, b7⟩ := b
  unfold C7.same
  simp [and_assoc]
theorem C7.same_no {a b : C7} : a.same b = false ↔ a ≠ b := by
  rw [Ne, ← C7.same_iff]; simp
instance instDecC7 : DecidableEq C7 := fun a b => decidable_of_iff (a.same b = true) C7.same_iff
instance instInhC7 : Inhabited C7 := ⟨⟨0, 0, 0, 0, 0, 0, 0⟩⟩
abbrev Rises (l : List C7) : Prop := l.Pairwise fun a b => a.i < b.i
theorem Rises.at {l : List C7} (h : Rises l) {a b : Nat} (hab : a < b) {x y : C7} (hx : l[a]? = some x) (hy : l[b]? = some y) : x.i < y.i := by
  obtain ⟨h1, rfl⟩ := List.getElem?_eq_some_iff.1 hx
  obtain ⟨h2, rfl⟩ := List.getElem?_eq_some_iff.1 hy
  exact List.pairwise_iff_getElem.1 h a b h1 h2 hab
theorem Rises.inj {l : List C7} (h : Rises l) {x y : C7} (hx : x ∈ l) (hy : y ∈ l) (hi : x.i = y.i) : x = y := by
  obtain ⟨a, ha⟩ := List.getElem?_of_mem hx
  obtain ⟨b, hb⟩ := List.getElem?_of_mem hy
  rcases Nat.lt_trichotomy a b with hab | hab | hab
  · have := h.at hab ha hb; omega
  · subst hab; rw [ha] at hb; exact Option.some.inj hb
  · have := h.at hab hb ha; omega
theorem Rises.one : ∀ {l m : List C7}, Rises l → Rises m → (∀ x, x ∈ l ↔ x ∈ m) → l = m
  | [], [], _, _, _ => rfl
  | [], y :: m, _, _, h => absurd ((h y).2 (List.mem_cons_self ..)) (by simp)
  | x :: l, [], _, _, h => absurd ((h x).1 (List.mem_cons_self ..)) (by simp)
  | x :: l, y :: m, hl, hm, h => by
    have hx := (h x).1 (List.mem_cons_self ..)
    have hy := (h y).2 (List.mem_cons_self ..)
    obtain ⟨hl1, hl2⟩ := List.pairwise_cons.1 hl
    obtain ⟨hm1, hm2⟩ := List.pairwise_cons.1 hm
    have hxy : x = y := by
      rcases List.mem_cons.1 hx with e | e
      · exact e
      · rcases List.mem_cons.1 hy with e' | e'
        · exact e'.symm
        · have := hm1 _ e; have := hl1 _ e'; omega
    subst hxy
    congr 1
    refine Rises.one hl2 hm2 fun z => ⟨fun hz => ?_, fun hz => ?_⟩
    · rcases List.mem_cons.1 ((h z).1 (List.mem_cons_of_mem _ hz)) with e | e
      · subst e; have := hl1 _ hz; omega
      · exact e
    · rcases List.mem_cons.1 ((h z).2 (List.mem_cons_of_mem _ hz)) with e | e
      · subst e; have := hm1 _ hz; omega
      · exact e
def placeI (l : List C7) (id : Int) : Option Nat := l.findIdx? fun c => c.i == id
def placeV (l : List C7) (id : Int) : Int := match placeI l id with | some k => k | none => -1
theorem placeI_some {l : List C7} {id : Int} {k : Nat} (h : placeI l id = some k) : k < l.length ∧ ∃ c, l[k]? = some c ∧ c.i = id := by
  obtain ⟨hk, hp, _⟩ := List.findIdx?_eq_some_iff_getElem.1 h
  exact ⟨hk, l[k], List.getElem?_eq_getElem hk, by simpa using hp⟩
theorem placeI_none {l : List C7} {id : Int} (h : placeI l id = none) : ∀ c ∈ l, c.i ≠ id := by
  have := List.findIdx?_eq_none_iff.1 h
  intro c hc; simpa using this c hc
theorem placeI_first {l : List C7} {id : Int} {k : Nat} (h : ∀ j, j < k → ∀ c, l[j]? = some c → c.i ≠ id) {c : C7} (hc : l[k]? = some c) (hi : c.i = id) : placeI l id = some k := by
  obtain ⟨hk, rfl⟩ := List.getElem?_eq_some_iff.1 hc
  exact List.findIdx?_eq_some_iff_getElem.2 ⟨hk, by simpa using hi, fun j hj => by simpa using h j hj _ (List.getElem?_eq_getElem (by omega))⟩
theorem placeI_nowhere {l : List C7} {id : Int} (h : ∀ j, j < l.length → ∀ c, l[j]? = some c → c.i ≠ id) : placeI l id = none :=
  List.findIdx?_eq_none_iff.2 fun c hc => by
    obtain ⟨j, hj⟩ := List.getElem?_of_mem hc
    simpa using h j (List.getElem?_eq_some_iff.1 hj).1 c hj
def putL (l : List C7) (c : C7) : List C7 := if (placeI l c.i).isSome then l else l.takeWhile (fun x => decide (x.i ≤ c.i)) ++ c :: l.dropWhile (fun x => decide (x.i ≤ c.i))
theorem putL_has {l : List C7} {c : C7} (h : (placeI l c.i).isSome = true) : putL l c = l := by unfold putL; rw [if_pos h]
theorem putL_mem {l : List C7} {c : C7} (h : placeI l c.i = none) (x : C7) : x ∈ putL l c ↔ x ∈ l ∨ x = c := by
  unfold putL; rw [h, if_neg (by simp)]
  have e : l.takeWhile (fun x => decide (x.i ≤ c.i)) ++ l.dropWhile (fun x => decide (x.i ≤ c.i)) = l := List.takeWhile_append_dropWhile
  constructor
  · intro hx
    rcases List.mem_append.1 hx with hx | hx
    · exact .inl (e ▸ List.mem_append_left _ hx)
    · rcases List.mem_cons.1 hx with hx | hx
      · exact .inr hx
      · exact .inl (e ▸ List.mem_append_right _ hx)
  · rintro (hx | rfl)
    · rw [← e] at hx
      rcases List.mem_append.1 hx with hx | hx
      · exact List.mem_append_left _ hx
      · exact List.mem_append_right _ (List.mem_cons_of_mem _ hx)
    · exact List.mem_append_right _ (List.mem_cons_self ..)
theorem putL_len (l : List C7) (c : C7) : (putL l c).length ≤ l.length + 1 := by
  unfold putL; split
  · omega
  · have e := congrArg List.length (List.takeWhile_append_dropWhile (p := fun x : C7 => decide (x.i ≤ c.i)) (l := l))
    rw [List.length_append] at e
    rw [List.length_append, List.length_cons]; omega
theorem dropWhile_gt {l : List C7} (h : Rises l) (n : Int) : ∀ x ∈ l.dropWhile (fun x => decide (x.i ≤ n)), n < x.i := by
  induction l with
  | nil => intro x hx; simp at hx
  | cons a l ih =>
    obtain ⟨h1, h2⟩ := List.pairwise_cons.1 h
    intro x hx
    rw [List.dropWhile_cons] at hx
    split at hx
    · exact ih h2 x hx
    · rename_i ha
      have ha' : n < a.i := by simpa using ha
      rcases List.mem_cons.1 hx with rfl | hx
      · exact ha'
      · have := h1 _ hx; omega
theorem takeWhile_le {l : List C7} {n : Int} : ∀ x ∈ l.takeWhile (fun x => decide (x.i ≤ n)), x.i ≤ n := by
  induction l with
  | nil => intro x hx; simp at hx
  | cons a l ih =>
    intro x hx
    rw [List.takeWhile_cons] at hx
    split at hx
    · rename_i ha
      rcases List.mem_cons.1 hx with rfl | hx
      · simpa using ha
      · exact ih x hx
    · simp at hx
theorem Rises.putL {l : List C7} (h : Rises l) (c : C7) : Rises (putL l c) := by
  unfold Go.Proofs.Ytbcmhnaiabifjaa.putL
  split
  · exact h
  · rename_i hn
    have hn' : placeI l c.i = none := by simpa using hn
    have e : l.takeWhile (fun x => decide (x.i ≤ c.i)) ++ l.dropWhile (fun x => decide (x.i ≤ c.i)) = l := List.takeWhile_append_dropWhile
    have h' : Rises (l.takeWhile (fun x => decide (x.i ≤ c.i)) ++ l.dropWhile (fun x => decide (x.i ≤ c.i))) := by rw [e]; exact h
    obtain ⟨p1, p2, p3⟩ := List.pairwise_append.1 h'
    have lt : ∀ x ∈ l.takeWhile (fun x => decide (x.i ≤ c.i)), x.i < c.i := fun x hx => by
      have h1 := takeWhile_le x hx
      have h2 := placeI_none hn' x (e ▸ List.mem_append_left _ hx)
      omega
    have gt := dropWhile_gt h c.i
    refine List.pairwise_append.2 ⟨p1, List.pairwise_cons.2 ⟨gt, p2⟩, fun x hx y hy => ?_⟩
    rcases List.mem_cons.1 hy with rfl | hy
    · exact lt x hx
    · exact p3 x hx y hy
def Clash (cs : List C7) : Prop := ∃ x ∈ cs, ∃ y ∈ cs, x.i = y.i ∧ x ≠ y
def clashB (cs : List C7) : Bool := cs.any fun x => cs.any fun y => x.i == y.i && !x.same y
theorem clash_iff {cs : List C7} : clashB cs = true ↔ Clash cs := by
  unfold clashB Clash
  simp only [List.any_eq_true, Bool.and_eq_true, beq_iff_eq, Bool.not_eq_true', C7.same_no]
theorem no_clash {cs : List C7} : clashB cs = false ↔ ∀ x ∈ cs, ∀ y ∈ cs, x.i = y.i → x = y := by
  rw [← Bool.not_eq_true, clash_iff]
  unfold Clash
  constructor
  · intro h x hx y hy hi
    by_cases he : x = y
    · exact he
    · exact absurd ⟨x, hx, y, hy, hi, he⟩ h
  · rintro h ⟨x, hx, y, hy, hi, hn⟩
    exact hn (h x hx y hy hi)
def setL (cs : List C7) : List C7 := cs.foldl putL []
theorem setL_snoc (cs : List C7) (c : C7) : setL (cs ++ [c]) = putL (setL cs) c := by simp [setL, List.foldl_append]
theorem snoc_cases {P : List C7 → Prop} (h0 : P []) (h1 : ∀ cs c, P cs → P (cs ++ [c])) : ∀ cs, P cs := fun cs => by
  have : ∀ l : List C7, P l.reverse := fun l => by
    induction l with
    | nil => exact h0
    | cons a l ih => rw [List.reverse_cons]; exact h1 _ _ ih
  have h := this cs.reverse
  rwa [List.reverse_reverse] at h
theorem setL_rises (cs : List C7) : Rises (setL cs) := by
  refine snoc_cases (P := fun cs => Rises (setL cs)) (by simp [setL]) (fun cs c ih => ?_) cs
  rw [setL_snoc]; exact ih.putL c
theorem setL_len (cs : List C7) : (setL cs).length ≤ cs.length := by
  refine snoc_cases (P := fun cs => (setL cs).length ≤ cs.length) (by simp [setL]) (fun cs c ih => ?_) cs
  rw [setL_snoc]; have := putL_len (setL cs) c; simp; omega
theorem setL_mem {cs : List C7} (h : clashB cs = false) : ∀ x, x ∈ setL cs ↔ x ∈ cs := by
  have := no_clash.1 h
  revert this
  refine snoc_cases (P := fun cs => (∀ x ∈ cs, ∀ y ∈ cs, x.i = y.i → x = y) → ∀ x, x ∈ setL cs ↔ x ∈ cs) (by simp [setL]) (fun cs c ih h z => ?_) cs
  have ih' := ih fun x hx y hy => h x (List.mem_append_left _ hx) y (List.mem_append_left _ hy)
  rw [setL_snoc]
  rcases hp : placeI (setL cs) c.i with _ | k
  · rw [putL_mem hp, ih', List.mem_append, List.mem_singleton]
  · obtain ⟨_, d, hd, hi⟩ := placeI_some hp
    have hdm : d ∈ cs := (ih' d).1 (List.mem_of_getElem? hd)
    have hdc : d = c := h d (List.mem_append_left _ hdm) c (List.mem_append_right _ (List.mem_cons_self ..)) hi
    rw [putL_has (by simp [hp]), ih', List.mem_append, List.mem_singleton]
    exact ⟨.inl, fun hz => hz.elim id fun e => e ▸ hdc ▸ hdm⟩
def ofE (cs : List C7) : Int := if cs.all C7.ok = true then (if clashB cs = true then 6 else 0) else 1
def ofL (cs : List C7) : List C7 := if cs.all C7.ok = true then (if clashB cs = true then [] else setL cs) else []
theorem of_bad {cs : List C7} (h : cs.all C7.ok = false) : ofE cs = 1 ∧ ofL cs = [] := by unfold ofE ofL; simp [h]
theorem of_clash {cs : List C7} (h : cs.all C7.ok = true) (hc : clashB cs = true) : ofE cs = 6 ∧ ofL cs = [] := by unfold ofE ofL; simp [h, hc]
theorem of_fine {cs : List C7} (h : cs.all C7.ok = true) (hc : clashB cs = false) : ofE cs = 0 ∧ ofL cs = setL cs := by unfold ofE ofL; simp [h, hc]
theorem of_wrong {cs : List C7} (h : ofE cs ≠ 0) : ofL cs = [] := by
  rcases h1 : cs.all C7.ok with _ | _
  · exact (of_bad h1).2
  rcases h2 : clashB cs with _ | _
  · exact absurd (of_fine h1 h2).1 h
  · exact (of_clash h1 h2).2
theorem take_snoc {cs : List C7} {k : Nat} {c : C7} (hc : cs[k]? = some c) : cs.take (k + 1) = cs.take k ++ [c] := by
  rw [List.take_add_one, hc]; rfl
theorem step_clash {cs : List C7} {k j : Nat} {c d : C7} (hc : cs[k]? = some c) (hn : clashB (cs.take k) = false) (hd : (setL (cs.take k))[j]? = some d) (hi : d.i = c.i) (hne : d.same c = false) : clashB cs = true := by
  have hdm : d ∈ cs.take k := (setL_mem hn d).1 (List.mem_of_getElem? hd)
  exact clash_iff.2 ⟨d, List.mem_of_mem_take hdm, c, List.mem_of_getElem? hc, hi, C7.same_no.1 hne⟩
theorem step_fine {cs : List C7} {k : Nat} {c : C7} (hc : cs[k]? = some c) (hn : clashB (cs.take k) = false) (h : ∀ j d, placeI (setL (cs.take k)) c.i = some j → (setL (cs.take k))[j]? = some d → d = c) :
    clashB (cs.take (k + 1)) = false ∧ setL (cs.take (k + 1)) = putL (setL (cs.take k)) c := by
  rw [take_snoc hc]
  refine ⟨no_clash.2 fun x hx y hy hi => ?_, setL_snoc _ _⟩
  have key : ∀ z ∈ cs.take k, z.i = c.i → z = c := fun z hz hzi => by
    have hzs := (setL_mem hn z).2 hz
    rcases hp : placeI (setL (cs.take k)) c.i with _ | j
    · exact absurd hzi (placeI_none hp z hzs)
    · obtain ⟨_, d, hd, hdi⟩ := placeI_some hp
      have hdc := h j d hp hd
      have : z = d := (setL_rises _).inj hzs (List.mem_of_getElem? hd) (by omega)
      rw [this, hdc]
  rcases List.mem_append.1 hx with hx1 | hx1 <;> rcases List.mem_append.1 hy with hy1 | hy1
  · exact no_clash.1 hn x hx1 y hy1 hi
  · rw [List.mem_singleton] at hy1; subst hy1; exact key x hx1 hi
  · rw [List.mem_singleton] at hx1; subst hx1; exact (key y hy1 hi.symm).symm
  · rw [List.mem_singleton] at hx1 hy1; rw [hx1, hy1]
abbrev Sorted7 (s : List C7) : Prop := s.Pairwise fun a b => a.i ≤ b.i
structure Upto (s : List C7) (k : Nat) (set : List C7) : Prop where
  rises : Rises set
  mem : ∀ x, x ∈ set ↔ x ∈ s.take k
  len : set.length ≤ k
  last : set[set.length - 1]? = (s.take k)[k - 1]?
theorem Upto.start (s : List C7) : Upto s 0 [] := ⟨List.Pairwise.nil, by simp, by simp, by simp⟩
theorem Upto.below {s : List C7} {k : Nat} {set : List C7} (h : Upto s k set) (hs : Sorted7 s) {c : C7} (hc : s[k]? = some c) : ∀ x ∈ set, x.i ≤ c.i := fun x hx => by
  obtain ⟨j, hj⟩ := List.getElem?_of_mem ((h.mem x).1 hx)
  obtain ⟨hjl, rfl⟩ := List.getElem?_eq_some_iff.1 hj
  obtain ⟨hk, rfl⟩ := List.getElem?_eq_some_iff.1 hc
  simp at hjl
  rw [List.getElem_take]
  exact List.pairwise_iff_getElem.1 hs j k (by omega) hk (by omega)
theorem Upto.lastLe {s : List C7} {k : Nat} {set : List C7} (h : Upto s k set) {d : C7} (hd : set[set.length - 1]? = some d) : ∀ x ∈ set, x.i ≤ d.i := fun x hx => by
  obtain ⟨j, hj⟩ := List.getElem?_of_mem hx
  have hjl := (List.getElem?_eq_some_iff.1 hj).1
  by_cases e : j = set.length - 1
  · subst e; rw [hj] at hd; rw [Option.some.inj hd]; omega
  · have := h.rises.at (show j < set.length - 1 by omega) hj hd; omega
theorem Upto.add {s : List C7} {k : Nat} {set : List C7} (h : Upto s k set) (hs : Sorted7 s) {c : C7} (hc : s[k]? = some c) (hn : ∀ d, set[set.length - 1]? = some d → d.i ≠ c.i) : Upto s (k + 1) (set ++ [c]) := by
  have lt : ∀ x ∈ set, x.i < c.i := fun x hx => by
    have h1 := h.below hs hc x hx
    have hl : 0 < set.length := List.length_pos_of_mem hx
    have hd : set[set.length - 1]? = some set[set.length - 1] := List.getElem?_eq_getElem (by omega)
    have h2 := h.lastLe hd x hx
    have h3 := h.below hs hc _ (List.mem_of_getElem? hd)
    have h4 := hn _ hd
    omega
  refine ⟨List.pairwise_append.2 ⟨h.rises, List.pairwise_singleton .., fun x hx y hy => by rw [List.mem_singleton] at hy; subst hy; exact lt x hx⟩, fun x => ?_, by have := h.len; simp; omega, ?_⟩
  · rw [take_snoc hc, List.mem_append, List.mem_append, h.mem]
  · have hk := (List.getElem?_eq_some_iff.1 hc).1
    rw [take_snoc hc]
    simp [Nat.min_eq_left (Nat.le_of_lt hk)]
theorem Upto.stay {s : List C7} {k : Nat} {set : List C7} (h : Upto s k set) {c : C7} (hc : s[k]? = some c) (hd : set[set.length - 1]? = some c) : Upto s (k + 1) set := by
  refine ⟨h.rises, fun x => ?_, by have := h.len; omega, ?_⟩
  · rw [take_snoc hc, List.mem_append, ← h.mem, List.mem_singleton]
    exact ⟨.inl, fun hx => hx.elim id fun e => e ▸ List.mem_of_getElem? hd⟩
  · have hk := (List.getElem?_eq_some_iff.1 hc).1
    rw [hd, take_snoc hc]
    simp [Nat.min_eq_left (Nat.le_of_lt hk)]
theorem Upto.no {s : List C7} {k : Nat} {set : List C7} (h : Upto s k set) {c d : C7} (hc : s[k]? = some c) (hd : set[set.length - 1]? = some d) (hi : d.i = c.i) (hne : d.same c = false) : clashB s = true :=
  clash_iff.2 ⟨d, List.mem_of_mem_take ((h.mem d).1 (List.mem_of_getElem? hd)), c, List.mem_of_getElem? hc, hi, C7.same_no.1 hne⟩
theorem Upto.whole {s : List C7} {set : List C7} (h : Upto s s.length set) : clashB s = false ∧ set = setL s := by
  have hm : ∀ x, x ∈ set ↔ x ∈ s := fun x => by rw [h.mem, List.take_length]
  have hn : clashB s = false := no_clash.2 fun x hx y hy hi => h.rises.inj ((hm x).2 hx) ((hm y).2 hy) hi
  exact ⟨hn, h.rises.one (setL_rises s) fun x => by rw [hm, setL_mem hn]⟩
theorem clash_perm {a b : List C7} (h : ∀ x, x ∈ a ↔ x ∈ b) : clashB a = clashB b := by
  rw [Bool.eq_iff_iff, clash_iff, clash_iff]
  unfold Clash
  simp only [h]
theorem ok_perm {a b : List C7} (h : ∀ x, x ∈ a ↔ x ∈ b) : a.all C7.ok = b.all C7.ok := by
  rw [Bool.eq_iff_iff, List.all_eq_true, List.all_eq_true]
  simp only [h]
theorem set_perm {a b : List C7} (h : ∀ x, x ∈ a ↔ x ∈ b) (hn : clashB a = false) : setL a = setL b :=
  (setL_rises a).one (setL_rises b) fun x => by rw [setL_mem hn, setL_mem (clash_perm h ▸ hn), h]
theorem of_perm {a b : List C7} (h : ∀ x, x ∈ a ↔ x ∈ b) : ofE a = ofE b ∧ ofL a = ofL b := by
  unfold ofE ofL
  rw [ok_perm h, clash_perm h]
  refine ⟨rfl, ?_⟩
  split
  · split
    · rfl
    · rename_i hn
      exact set_perm h (by rw [clash_perm h]; simpa using hn)
  · rfl
theorem Upto.fine {s cs : List C7} {set : List C7} (h : Upto s s.length set) (hp : ∀ x, x ∈ s ↔ x ∈ cs) (hok : cs.all C7.ok = true) : ofE cs = 0 ∧ ofL cs = set := by
  obtain ⟨h1, h2⟩ := h.whole
  have := of_fine (cs := s) (by rw [ok_perm hp]; exact hok) h1
  rw [← (of_perm hp).1, ← (of_perm hp).2, h2]
  exact this
def RiseTo (l : List C7) (k : Nat) : Prop := ∀ j, 1 ≤ j → j < k → ∀ x y, l[j - 1]? = some x → l[j]? = some y → x.i < y.i
theorem RiseTo.lt {l : List C7} : ∀ (b a : Nat), RiseTo l l.length → a < b → ∀ x y, l[a]? = some x → l[b]? = some y → x.i < y.i
  | 0, a, _, hab, _, _, _, _ => absurd hab (by omega)
  | b + 1, a, h, hab, x, y, hx, hy => by
    have hb := (List.getElem?_eq_some_iff.1 hy).1
    have hz : l[b]? = some l[b] := List.getElem?_eq_getElem (by omega)
    have h1 := h (b + 1) (by omega) hb _ _ hz hy
    by_cases e : a = b
    · subst e; rw [hx] at hz; rw [Option.some.inj hz]; exact h1
    · have := RiseTo.lt b a h (by omega) x _ hx hz; omega
theorem RiseTo.rises {l : List C7} (h : RiseTo l l.length) : Rises l :=
  List.pairwise_iff_getElem.2 fun a b ha hb hab => RiseTo.lt b a h hab _ _ (List.getElem?_eq_getElem ha) (List.getElem?_eq_getElem hb)
def risesB (l : List C7) : Bool := decide (Rises l)
theorem RiseTo.yes {l : List C7} (h : RiseTo l l.length) : risesB l = true := decide_eq_true h.rises
theorem rises_no {l : List C7} {k : Nat} {x y : C7} (hx : l[k - 1]? = some x) (hy : l[k]? = some y) (hk : 1 ≤ k) (h : y.i ≤ x.i) : risesB l = false :=
  decide_eq_false fun hr => by have := hr.at (show k - 1 < k by omega) hx hy; omega
def setB (l : List C7) : Bool := decide (l.length ≤ 1024) && l.all C7.ok && risesB l
end Go.Proofs.Ytbcmhnaiabifjaa
namespace Go.Proofs.Ytbcmhnaiabifjaa
def oneN (n : Nat) : List UInt8 :=
  if h : n < 128 then [UInt8.ofNat n] else UInt8.ofNat (n % 128 + 128) :: oneN (n / 128)
termination_by n
decreasing_by omega
abbrev St := List UInt8 × Int
end Go.Proofs.Ytbcmhnaiabifjaa
namespace Go.Proofs.Ytbcmhnaiabifjaa
def C7.bytes (c : C7) : List UInt8 := oneN c.i.toNat ++ (oneN c.k.toNat ++ (oneN c.s.toNat ++ (oneN c.t.toNat ++ (oneN c.d.toNat ++ (oneN c.p.toNat ++ oneN c.q.toNat)))))
end Go.Proofs.Ytbcmhnaiabifjaa
namespace Go.Proofs.Ytbcmhnaiabifjaa
open Go.RowKit
open Go.Lib (hid)
def flat : List C7 → List Value
  | [] => []
  | c :: cs => c.cells ++ flat cs
theorem flat_len : ∀ cs : List C7, (flat cs).length = cs.length * 7
  | [] => rfl
  | c :: cs => by rw [flat, List.length_append, flat_len cs, List.length_cons]; simp; omega
theorem flat_append : ∀ a b : List C7, flat (a ++ b) = flat a ++ flat b
  | [], b => rfl
  | c :: a, b => by rw [List.cons_append, flat, flat, flat_append a b, List.append_assoc]
theorem flat_single (c : C7) : flat [c] = c.cells := by simp [flat]
theorem flat_one : ∀ (cs : List C7), ∀ u ∈ flat cs, u.oneCell' = true
  | [], u, hu => by simp [flat] at hu
  | c :: cs, u, hu => by
    rw [flat] at hu
    rcases List.mem_append.1 hu with hu | hu
    · simp at hu; rcases hu with rfl | rfl | rfl | rfl | rfl | rfl | rfl <;> rfl
    · exact flat_one cs u hu
theorem flat_at : ∀ (cs : List C7) (j : Nat) (c : C7), cs[j]? = some c → ∀ (f : Nat) v, c.cells[f]? = some v → (flat cs)[j * 7 + f]? = some v
  | [], j, c, h, _, _, _ => by simp at h
  | d :: cs, 0, c, h, f, v, hv => by
    simp at h; subst h
    have hf := (List.getElem?_eq_some_iff.1 hv).1
    rw [flat, Nat.zero_mul, Nat.zero_add, List.getElem?_append_left hf]; exact hv
  | d :: cs, j + 1, c, h, f, v, hv => by
    have := flat_at cs j c (by simpa using h) f v hv
    have h7 : d.cells.length = 7 := rfl
    rw [flat, List.getElem?_append_right (by omega), h7, show (j + 1) * 7 + f - 7 = j * 7 + f by omega]
    exact this
theorem flat_of (cs : List C7) (n : Nat) (v : Value) (h : (flat cs)[n]? = some v) : ∃ c, cs[n / 7]? = some c ∧ c.cells[n % 7]? = some v := by
  have hl := (List.getElem?_eq_some_iff.1 h).1
  rw [flat_len] at hl
  have hc : cs[n / 7]? = some (cs[n / 7]'(by omega)) := List.getElem?_eq_getElem (by omega)
  refine ⟨_, hc, ?_⟩
  have h7 : n % 7 < (cs[n / 7]'(by omega)).cells.length := Nat.mod_lt _ (by decide)
  have hv : (cs[n / 7]'(by omega)).cells[n % 7]? = some ((cs[n / 7]'(by omega)).cells[n % 7]) := List.getElem?_eq_getElem h7
  have := flat_at cs _ _ hc _ _ hv
  rw [show n / 7 * 7 + n % 7 = n by omega, h] at this
  rw [hv]; exact this.symm
abbrev Own (w : World) (B : Nat) (v : Value) (cs : List C7) : Prop := w.ownsRow B 47 7 v cs.length (flat cs)
theorem Own.nil (w : World) (B : Nat) : Own w B (.slice none 0 0) [] := World.ownsRow_nil _ _ _ _
theorem Own.shape {w : World} {B : Nat} {v : Value} {cs : List C7} (h : Own w B v cs) :
    (v = .slice none 0 0 ∧ cs = []) ∨ ∃ g cap, v = .slice (some ⟨g, 0, none⟩) cs.length cap ∧ B ≤ g ∧ g < w.heap.size ∧ CmsAt w g 0 cs := by
  have hl := h.lt
  have hcl := fun g (hg : v.ownBlock = some g) => h.cells hg
  rcases h.2 with ⟨rfl, h0⟩ | ⟨g, cap, cur, rfl, hb, hg, hn, hm, hs, ht⟩
  · exact .inl ⟨rfl, List.length_eq_zero_iff.1 h0⟩
  · refine .inr ⟨g, cap, rfl, hb, (hl g rfl).2, fun j c hc f v hv => ?_⟩
    have := hcl g rfl _ _ (flat_at cs j c hc f v hv)
    rw [show (⟨g, 0, none⟩ : Addr).add (j * 7 + f) = ⟨g, 0 + (j * 7 + f), none⟩ from by unfold Addr.add; split <;> simp_all] at this
    exact this
def Sl (w : World) (v : Value) (cs : List C7) : Prop :=
  ∃ (b o cap : Nat) (a : Option Addr), v = .slice a cs.length cap ∧ (a = none → cap = 0) ∧ (0 < cs.length → a = some ⟨b, o, none⟩) ∧ CmsAt w b o cs ∧ (0 < cs.length → b < w.heap.size)
theorem Own.sl {w : World} {B : Nat} {v : Value} {cs : List C7} (h : Own w B v cs) : Sl w v cs := by
  rcases h.shape with ⟨rfl, rfl⟩ | ⟨g, cap, rfl, hb, hl, hc⟩
  · exact ⟨0, 0, 0, none, rfl, fun _ => rfl, fun h => absurd h (by simp), fun j c hc => by simp at hc, fun h => absurd h (by simp)⟩
  · exact ⟨g, 0, cap, _, rfl, fun h => by simp at h, fun _ => rfl, hc, fun _ => hl⟩
theorem Sl.on {w w' : World} {v : Value} {cs : List C7} (h : Sl w v cs) (hb : Below w.heap.size w w') : Sl w' v cs := by
  obtain ⟨b, o, cap, a, rfl, hn, ha, hc, hl⟩ := h
  refine ⟨b, o, cap, a, rfl, hn, ha, ?_, fun h0 => by have := hl h0; have := hb.size; omega⟩
  intro j c hj
  have h0 : 0 < cs.length := by have := (List.getElem?_eq_some_iff.1 hj).1; omega
  exact hc.on hb (hl h0) j c hj
theorem Sl.src {w : World} {v : Value} {cs : List C7} (h : Sl w v cs) :
    (v = .slice none 0 0 ∧ cs = []) ∨ ∃ ad cap, v = .slice (some ad) cs.length cap ∧ (∀ (j : Nat) u, (flat cs)[j]? = some u → w.cell? (ad.add j) = some u) ∧ (flat cs ≠ [] → ad.block < w.heap.size) := by
  obtain ⟨b, o, cap, a, rfl, hn, ha, hc, hl⟩ := h
  rcases a with _ | ad
  · have h0 : cs.length = 0 := by
      rcases Nat.eq_zero_or_pos cs.length with h | h
      · exact h
      · have := ha h; simp at this
    exact .inl ⟨by rw [hn rfl, h0], List.length_eq_zero_iff.1 h0⟩
  · refine .inr ⟨ad, cap, rfl, fun j u hu => ?_, fun h0 => ?_⟩
    · obtain ⟨c, hj, hv⟩ := flat_of cs j u hu
      have h0 : 0 < cs.length := by have := (List.getElem?_eq_some_iff.1 hj).1; omega
      obtain rfl := Option.some.inj (ha h0)
      have := hc _ _ hj _ _ hv
      rw [show j / 7 * 7 + j % 7 = j by omega] at this
      rw [show (⟨b, o, none⟩ : Addr).add j = ⟨b, o + j, none⟩ from by unfold Addr.add; split <;> simp_all]
      exact this
    · have h0 : 0 < cs.length := by
        rcases cs with _ | _
        · simp [flat] at h0
        · simp
      obtain rfl := Option.some.inj (ha h0)
      exact hl h0
theorem Try.infoC : (Try.prog.info? 47).map (fun i => (i.zero, i.size, i.bytes)) = some (some (.agg #[.int .i64 0, .int .i64 0, .int .i64 0, .int .i64 0, .int .i64 0, .int .i64 0, .int .i64 0]), 7, 56) := by kernel_rfl
abbrev C7.v (c : C7) : Value := cmV c.i c.k c.s c.t c.d c.p c.q
theorem cRight' {v : Value} {cs : List C7} {w : World} (h : Sl w v cs) (hl : cs.length ≤ 100000) : Calls Try.prog 48 #[v] w fun e w' => e = .returned (.bool (cs.all C7.ok)) ∧ Below w.heap.size w w' := by
  obtain ⟨b, o, cap, a, rfl, hn, ha, hc, hb⟩ := h
  exact cRight b o cap a cs ha hl w hc hb
theorem rRights' {v : Value} {cs : List C7} {w : World} (h : Sl w v cs) (hl : cs.length ≤ 100000) : Calls Try.prog 57 #[v] w fun e w' => e = .returned (.bool (cs.all C7.ok)) ∧ Below w.heap.size w w' := by
  obtain ⟨b, o, cap, a, rfl, hn, ha, hc, hb⟩ := h
  exact rRights b o cap a cs ha hl w hc hb
end Go.Proofs.Ytbcmhnaiabifjaa
namespace Go.Proofs.Ytbcmhnaiabifjaa
set_option linter.unusedVariables false
open Go.RowKit
open Go.Lib (hid)
def octs (l : List UInt8) : List Value := l.map fun b => .int .u8 b.toNat
theorem octs_append (a b : List UInt8) : octs (a ++ b) = octs a ++ octs b := by simp [octs]
abbrev OwnB (w : World) (B : Nat) (v : Value) (l : List UInt8) : Prop := w.ownsRow B 5 1 v l.length (octs l)
theorem OwnB.nil (w : World) (B : Nat) : OwnB w B (.slice none 0 0) [] := World.ownsRow_nil _ _ _ _
theorem OwnB.shape {w : World} {B : Nat} {v : Value} {l : List UInt8} (h : OwnB w B v l) :
    (v = .slice none 0 0 ∧ l = []) ∨ ∃ g cap, v = .slice (some ⟨g, 0, none⟩) l.length cap ∧ B ≤ g ∧ g < w.heap.size ∧ ∀ (j : Nat) b, l[j]? = some b → w.cell? ⟨g, j, none⟩ = some (.int .u8 b.toNat) := by
  have hl := h.lt
  rcases h.2 with ⟨rfl, h0⟩ | ⟨g, cap, cur, rfl, hb, hg, hn, hm, hs, ht⟩
  · exact .inl ⟨rfl, List.length_eq_zero_iff.1 h0⟩
  · refine .inr ⟨g, cap, rfl, hb, (hl g rfl).2, fun j b hj => ?_⟩
    have hj' := (List.getElem?_eq_some_iff.1 hj).1
    rw [h.cellAt j (by omega)]
    simp [octs, hj]
theorem own_monoB {w : World} {B B' : Nat} {e : TypeId} {size : Nat} {v : Value} {n : Nat} {xs : List Value} (h : w.ownsRow B e size v n xs) (hB : B' ≤ B) : w.ownsRow B' e size v n xs := by
  refine ⟨h.1, ?_⟩
  rcases h.2 with h2 | ⟨g, cap, cur, rfl, hb, r⟩
  · exact .inl h2
  · exact .inr ⟨g, cap, cur, rfl, Nat.le_trans hB hb, r⟩
theorem OwnB.below {w w' : World} {B C : Nat} {v : Value} {l : List UInt8} (h : OwnB w B v l) (hb : Below C w w') (hC : ∀ k, v.ownBlock = some k → k < C) : OwnB w' B v l := by
  refine ⟨h.1, ?_⟩
  rcases h.2 with h2 | ⟨g, cap, cur, rfl, h1, hg, r⟩
  · exact .inl h2
  · exact .inr ⟨g, cap, cur, rfl, h1, by rw [hb.block g (hC g rfl)]; exact hg, r⟩
end Go.Proofs.Ytbcmhnaiabifjaa
namespace Go.Proofs.Ytbcmhnaiabifjaa
set_option linter.unusedVariables false
open Go.RowKit
open Go.Lib (hid)
def SlN (w : World) (v : Value) (l : List Int) : Prop :=
  ∃ (b o cap : Nat) (a : Option Addr), v = .slice a l.length cap ∧ (0 < l.length → a = some ⟨b, o, none⟩) ∧ (∀ (j : Nat) x, l[j]? = some x → w.cell? ⟨b, o + j, none⟩ = some (.int .i64 x)) ∧ (0 < l.length → b < w.heap.size)
theorem SlN.on {w w' : World} {v : Value} {l : List Int} (h : SlN w v l) (hb : Below w.heap.size w w') : SlN w' v l := by
  obtain ⟨b, o, cap, a, rfl, ha, hc, hl⟩ := h
  refine ⟨b, o, cap, a, rfl, ha, fun j x hx => ?_, fun h0 => by have := hl h0; have := hb.size; omega⟩
  have h0 : 0 < l.length := by have := (List.getElem?_eq_some_iff.1 hx).1; omega
  rw [hb.cell (p := ⟨b, o + j, none⟩) (hl h0)]
  exact hc j x hx
theorem OwnB.grows {w W0 w1 : World} {B n : Nat} {v v' : Value} {a b : List UInt8} (hB : Below B w W0) (hsz : B ≤ W0.heap.size) (hlt : ∀ k, v.ownBlock = some k → B ≤ k)
    (hown' : w1.ownsRow B 5 1 v' n (octs a ++ octs b)) (hn : n = a.length + b.length) (hg : W0.grownBy w1 v.ownBlock) : OwnB w1 B v' (a ++ b) ∧ Below B w w1 :=
  ⟨by unfold OwnB; rw [octs_append, List.length_append, ← hn]; exact hown', hB.grown hg hsz hlt⟩
theorem OwnB.asSlice {w : World} {B : Nat} {v : Value} {l : List UInt8} (h : OwnB w B v l) : ∃ (g : Option Addr) (cap n : Nat), v = .slice g n cap ∧ n = l.length := by
  rcases h.shape with ⟨e, e'⟩ | ⟨g, cap, e, _⟩
  · exact ⟨none, 0, 0, e, by rw [e']; rfl⟩
  · exact ⟨_, cap, _, e, rfl⟩
def C7.nums (c : C7) : List Int := [c.i, c.k, c.s, c.t, c.d, c.p, c.q]
end Go.Proofs.Ytbcmhnaiabifjaa
