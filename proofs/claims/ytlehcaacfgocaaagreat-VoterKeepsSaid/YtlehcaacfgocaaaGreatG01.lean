import Derived.Test.YtlehcaacfgocaaaGreatG00
import Derived.Deep.QuietTactic
import Derived.BigQuiet
import Derived.Outline
import Derived.Laws.AppendOwn
import Derived.Laws.AppendOwnNone
import Derived.Laws.OwnMore
import Derived.OwnWalk
import Derived.WalkKit
import Derived.Laws.StructEq
/- Right, the program's and the document's: whether all of any commands may be. -/
namespace Go.Proofs.YtlehcaacfgocaaaGreat
open Go.RowKit
open Go.Lib (hid)

structure C7 where
  i : Int
  k : Int
  s : Int
  t : Int
  d : Int
  p : Int
  q : Int
abbrev C7.cells (c : C7) : List Value := [.int .i64 c.i, .int .i64 c.k, .int .i64 c.s, .int .i64 c.t, .int .i64 c.d, .int .i64 c.p, .int .i64 c.q]
def C7.ok (c : C7) : Bool := oneB c.i c.k c.s c.t c.d c.p c.q
/-- The commands lie in the cells from an address on. -/
def CmsAt (w : World) (b o : Nat) (cs : List C7) : Prop :=
  ∀ (j : Nat) c, cs[j]? = some c → ∀ (f : Nat) v, c.cells[f]? = some v → w.cell? ⟨b, o + (j * 7 + f), none⟩ = some v
theorem CmsAt.on {w w' : World} {b o B : Nat} {cs : List C7} (h : CmsAt w b o cs) (hb : Below B w w') (hB : b < B) : CmsAt w' b o cs := fun j c hc f v hv => by
  rw [hb.cell (p := ⟨b, o + (j * 7 + f), none⟩) hB]; exact h j c hc f v hv
theorem CmsAt.at {w : World} {b o : Nat} {cs : List C7} (h : CmsAt w b o cs) {j : Nat} {c : C7} (hc : cs[j]? = some c) :
    w.cell? ⟨b, o + j * 7, none⟩ = some (.int .i64 c.i) ∧ w.cell? ⟨b, o + j * 7 + 1, none⟩ = some (.int .i64 c.k) ∧ w.cell? ⟨b, o + j * 7 + 2, none⟩ = some (.int .i64 c.s) ∧ w.cell? ⟨b, o + j * 7 + 3, none⟩ = some (.int .i64 c.t) ∧
    w.cell? ⟨b, o + j * 7 + 4, none⟩ = some (.int .i64 c.d) ∧ w.cell? ⟨b, o + j * 7 + 5, none⟩ = some (.int .i64 c.p) ∧ w.cell? ⟨b, o + j * 7 + 6, none⟩ = some (.int .i64 c.q) :=
  ⟨h j c hc 0 _ rfl, h j c hc 1 _ rfl, h j c hc 2 _ rfl, h j c hc 3 _ rfl, h j c hc 4 _ rfl, h j c hc 5 _ rfl, h j c hc 6 _ rfl⟩

theorem ok_next {cs : List C7} {k : Nat} {c : C7} (h : (cs.take k).all C7.ok = true) (hc : cs[k]? = some c) (h2 : c.ok = true) : (cs.take (k + 1)).all C7.ok = true := by
  rw [List.take_add_one, hc]; simp only [Option.toList_some, List.all_append, h, List.all_cons, h2, List.all_nil]; rfl
theorem ok_no {cs : List C7} {k : Nat} {c : C7} (hc : cs[k]? = some c) (h2 : c.ok = false) : cs.all C7.ok = false := by
  rw [List.all_eq_false]
  exact ⟨c, List.mem_of_getElem? hc, by simp [h2]⟩

set_option maxHeartbeats 600000 in
set_option maxRecDepth 100000 in
theorem cRight (b o cap : Nat) (a : Option Addr) (cs : List C7) (ha : 0 < cs.length → a = some ⟨b, o, none⟩) (hl : cs.length ≤ 100000) (w : World) (h : CmsAt w b o cs) (hb : 0 < cs.length → b < w.heap.size) : Calls Tryz.prog 64 #[.slice a cs.length cap] w fun e w' => e = .returned (.bool (cs.all C7.ok)) ∧ Below w.heap.size w w' := by
  go_enter Tryz.func64, Tryz.ntmps64
  go_wp2
  go_loopw [7] (fun i wr => ∃ k : Nat, k ≤ cs.length ∧ i = .int .i64 k ∧ Hid ((cs.take k).all C7.ok = true) ∧ Below w.heap.size w wr) (fun i _ => cs.length - (intOf i).toNat)
  case atStart => exact ⟨0, Nat.zero_le _, rfl, rfl, Below.refl _ _⟩
  case round =>
    obtain ⟨k, hk, rfl, hak, hB⟩ := hrel
    by_cases hlt : k < cs.length
    · obtain rfl := ha (by omega)
      obtain ⟨c, hc⟩ : ∃ c, cs[k]? = some c := ⟨cs[k], List.getElem?_eq_getElem hlt⟩
      have hbw := hb (by omega)
      obtain ⟨c0, c1, c2, c3, c4, c5, c6⟩ := (h.on hB hbw).at hc
      have HC := hid hc
      clear hc
      rcases hm : c.ok with _ | _
      · have hM := fun W => cMayBe c.i c.k c.s c.t c.d c.p c.q W
        rw [show oneB c.i c.k c.s c.t c.d c.p c.q = false from hm] at hM
        have HM := hid hm
        clear hm
        go_wp2_with (go_at_call 107; refine (hM _).mono ?_; rintro e w1 ⟨rfl, hb1⟩)
        go_ret
        exact ⟨ret_bool (ok_no HC.out HM.out).symm, (hB.alloc hB.size _).trans (hb1.mono (by have := hB.size; simp; omega))⟩
      · have hM := fun W => cMayBe c.i c.k c.s c.t c.d c.p c.q W
        rw [show oneB c.i c.k c.s c.t c.d c.p c.q = true from hm] at hM
        have HM := hid hm
        clear hm
        go_wp2_with (go_at_call 107; refine (hM _).mono ?_; rintro e w1 ⟨rfl, hb1⟩)
        go_roundw
        case rel => exact ⟨k + 1, by omega, by go_num, ok_next hak.out HC.out HM.out, (hB.alloc hB.size _).trans (hb1.mono (by have := hB.size; simp; omega))⟩
        case measure => simp [intOf]; omega
    · have HE : Hid (cs.all C7.ok = true) := by
        have := hak.out
        rw [List.take_of_length_le (by omega)] at this
        exact this
      go_wp2
      go_ret
      exact ⟨ret_bool HE.out.symm, hB⟩

set_option maxHeartbeats 600000 in
set_option maxRecDepth 100000 in
theorem rRights (b o cap : Nat) (a : Option Addr) (cs : List C7) (ha : 0 < cs.length → a = some ⟨b, o, none⟩) (hl : cs.length ≤ 100000) (w : World) (h : CmsAt w b o cs) (hb : 0 < cs.length → b < w.heap.size) : Calls Tryz.prog 82 #[.slice a cs.length cap] w fun e w' => e = .returned (.bool (cs.all C7.ok)) ∧ Below w.heap.size w w' := by
  go_enter Tryz.func82, Tryz.ntmps82
  go_wp2
  go_loopw [3] (fun i wr => ∃ k : Nat, k ≤ cs.length ∧ i = .int .i64 k ∧ Hid ((cs.take k).all C7.ok = true) ∧ Below w.heap.size w wr) (fun i _ => cs.length - (intOf i).toNat)
  case atStart => exact ⟨0, Nat.zero_le _, rfl, rfl, Below.refl _ _⟩
  case round =>
    obtain ⟨k, hk, rfl, hak, hB⟩ := hrel
    by_cases hlt : k < cs.length
    · obtain rfl := ha (by omega)
      obtain ⟨c, hc⟩ : ∃ c, cs[k]? = some c := ⟨cs[k], List.getElem?_eq_getElem hlt⟩
      have hbw := hb (by omega)
      obtain ⟨c0, c1, c2, c3, c4, c5, c6⟩ := (h.on hB hbw).at hc
      have HC := hid hc
      clear hc
      rcases hm : c.ok with _ | _
      · have hM := fun W => rOne c.i c.k c.s c.t c.d c.p c.q W
        rw [show oneB c.i c.k c.s c.t c.d c.p c.q = false from hm] at hM
        have HM := hid hm
        clear hm
        go_wp2_with (go_at_call 54; refine (hM _).mono ?_; rintro e w1 ⟨rfl, hb1⟩)
        go_ret
        exact ⟨ret_bool (ok_no HC.out HM.out).symm, hB.trans (hb1.mono hB.size)⟩
      · have hM := fun W => rOne c.i c.k c.s c.t c.d c.p c.q W
        rw [show oneB c.i c.k c.s c.t c.d c.p c.q = true from hm] at hM
        have HM := hid hm
        clear hm
        go_wp2_with (go_at_call 54; refine (hM _).mono ?_; rintro e w1 ⟨rfl, hb1⟩)
        go_roundw
        case rel => exact ⟨k + 1, by omega, by go_num, ok_next hak.out HC.out HM.out, hB.trans (hb1.mono hB.size)⟩
        case measure => simp [intOf]; omega
    · have HE : Hid (cs.all C7.ok = true) := by
        have := hak.out
        rw [List.take_of_length_le (by omega)] at this
        exact this
      go_wp2
      go_ret
      exact ⟨ret_bool HE.out.symm, hB⟩
end Go.Proofs.YtlehcaacfgocaaaGreat
/- The mathematics of sets of commands: sorted by name, no name with two commands; what stands in them; that they are one list. -/
namespace Go.Proofs.YtlehcaacfgocaaaGreat

def C7.same (a b : C7) : Bool := a.i == b.i && a.k == b.k && a.s == b.s && a.t == b.t && a.d == b.d && a.p == b.p && a.q == b.q
theorem C7.same_iff {a b : C7} : a.same b = true ↔ a = b := by
  obtain ⟨a1, a2, a3, a4, a5, a6, a7⟩ := a
  obtain ⟨b1, b2, b3, b4, b5, b6, b7⟩ := b
  unfold C7.same
  simp [and_assoc]
theorem C7.same_no {a b : C7} : a.same b = false ↔ a ≠ b := by
  rw [Ne, ← C7.same_iff]; simp
instance instDecC7 : DecidableEq C7 := fun a b => decidable_of_iff (a.same b = true) C7.same_iff
instance instInhC7 : Inhabited C7 := ⟨⟨0, 0, 0, 0, 0, 0, 0⟩⟩

/-- The names rise. -/
abbrev Rises (l : List C7) : Prop := l.Pairwise fun a b => a.i < b.i
theorem Rises.at {l : List C7} (h : Rises l) {a b : Nat} (hab : a < b) {x y : C7} (hx : l[a]? = some x) (hy : l[b]? = some y) : x.i < y.i := by
  obtain ⟨h1, rfl⟩ := List.getElem?_eq_some_iff.1 hx
  obtain ⟨h2, rfl⟩ := List.getElem?_eq_some_iff.1 hy
  exact List.pairwise_iff_getElem.1 h a b h1 h2 hab
theorem Rises.inj {l : List C7} (h : Rises l) {x y : C7} (hx : x ∈ l) (hy : y ∈ l) (hi : x.i = y.i) : x = y := by
  obtain ⟨a, ha⟩ := List.getElem?_of_mem hx
  obtain ⟨b, hb⟩ := List.getElem?_of_mem hy
  rcases Nat.lt_trichotomy a b with hab | hab | hab
  · have := h.at hab ha hb; omega
  · subst hab; rw [ha] at hb; exact Option.some.inj hb
  · have := h.at hab hb ha; omega
/-- Two lists whose names rise, with the same commands, are one. -/
theorem Rises.one : ∀ {l m : List C7}, Rises l → Rises m → (∀ x, x ∈ l ↔ x ∈ m) → l = m
  | [], [], _, _, _ => rfl
  | [], y :: m, _, _, h => absurd ((h y).2 (List.mem_cons_self ..)) (by simp)
  | x :: l, [], _, _, h => absurd ((h x).1 (List.mem_cons_self ..)) (by simp)
  | x :: l, y :: m, hl, hm, h => by
    have hx := (h x).1 (List.mem_cons_self ..)
    have hy := (h y).2 (List.mem_cons_self ..)
    obtain ⟨hl1, hl2⟩ := List.pairwise_cons.1 hl
    obtain ⟨hm1, hm2⟩ := List.pairwise_cons.1 hm
    have hxy : x = y := by
      rcases List.mem_cons.1 hx with e | e
      · exact e
      · rcases List.mem_cons.1 hy with e' | e'
        · exact e'.symm
        · have := hm1 _ e; have := hl1 _ e'; omega
    subst hxy
    congr 1
    refine Rises.one hl2 hm2 fun z => ⟨fun hz => ?_, fun hz => ?_⟩
    · rcases List.mem_cons.1 ((h z).1 (List.mem_cons_of_mem _ hz)) with e | e
      · subst e; have := hl1 _ hz; omega
      · exact e
    · rcases List.mem_cons.1 ((h z).2 (List.mem_cons_of_mem _ hz)) with e | e
      · subst e; have := hm1 _ hz; omega
      · exact e

/-- The place of a name. -/
def placeI (l : List C7) (id : Int) : Option Nat := l.findIdx? fun c => c.i == id
def placeV (l : List C7) (id : Int) : Int := match placeI l id with | some k => k | none => -1
theorem placeI_some {l : List C7} {id : Int} {k : Nat} (h : placeI l id = some k) : k < l.length ∧ ∃ c, l[k]? = some c ∧ c.i = id := by
  obtain ⟨hk, hp, _⟩ := List.findIdx?_eq_some_iff_getElem.1 h
  exact ⟨hk, l[k], List.getElem?_eq_getElem hk, by simpa using hp⟩
theorem placeI_none {l : List C7} {id : Int} (h : placeI l id = none) : ∀ c ∈ l, c.i ≠ id := by
  have := List.findIdx?_eq_none_iff.1 h
  intro c hc; simpa using this c hc
theorem placeI_first {l : List C7} {id : Int} {k : Nat} (h : ∀ j, j < k → ∀ c, l[j]? = some c → c.i ≠ id) {c : C7} (hc : l[k]? = some c) (hi : c.i = id) : placeI l id = some k := by
  obtain ⟨hk, rfl⟩ := List.getElem?_eq_some_iff.1 hc
  exact List.findIdx?_eq_some_iff_getElem.2 ⟨hk, by simpa using hi, fun j hj => by simpa using h j hj _ (List.getElem?_eq_getElem (by omega))⟩
theorem placeI_nowhere {l : List C7} {id : Int} (h : ∀ j, j < l.length → ∀ c, l[j]? = some c → c.i ≠ id) : placeI l id = none :=
  List.findIdx?_eq_none_iff.2 fun c hc => by
    obtain ⟨j, hj⟩ := List.getElem?_of_mem hc
    simpa using h j (List.getElem?_eq_some_iff.1 hj).1 c hj

/-- A command more, at its place; of one name the first one stays. -/
def putL (l : List C7) (c : C7) : List C7 := if (placeI l c.i).isSome then l else l.takeWhile (fun x => decide (x.i ≤ c.i)) ++ c :: l.dropWhile (fun x => decide (x.i ≤ c.i))
theorem putL_has {l : List C7} {c : C7} (h : (placeI l c.i).isSome = true) : putL l c = l := by unfold putL; rw [if_pos h]
theorem putL_mem {l : List C7} {c : C7} (h : placeI l c.i = none) (x : C7) : x ∈ putL l c ↔ x ∈ l ∨ x = c := by
  unfold putL; rw [h, if_neg (by simp)]
  have e : l.takeWhile (fun x => decide (x.i ≤ c.i)) ++ l.dropWhile (fun x => decide (x.i ≤ c.i)) = l := List.takeWhile_append_dropWhile
  constructor
  · intro hx
    rcases List.mem_append.1 hx with hx | hx
    · exact .inl (e ▸ List.mem_append_left _ hx)
    · rcases List.mem_cons.1 hx with hx | hx
      · exact .inr hx
      · exact .inl (e ▸ List.mem_append_right _ hx)
  · rintro (hx | rfl)
    · rw [← e] at hx
      rcases List.mem_append.1 hx with hx | hx
      · exact List.mem_append_left _ hx
      · exact List.mem_append_right _ (List.mem_cons_of_mem _ hx)
    · exact List.mem_append_right _ (List.mem_cons_self ..)
theorem dropWhile_gt {l : List C7} (h : Rises l) (n : Int) : ∀ x ∈ l.dropWhile (fun x => decide (x.i ≤ n)), n < x.i := by
  induction l with
  | nil => intro x hx; simp at hx
  | cons a l ih =>
    obtain ⟨h1, h2⟩ := List.pairwise_cons.1 h
    intro x hx
    rw [List.dropWhile_cons] at hx
    split at hx
    · exact ih h2 x hx
    · rename_i ha
      have ha' : n < a.i := by simpa using ha
      rcases List.mem_cons.1 hx with rfl | hx
      · exact ha'
      · have := h1 _ hx; omega
theorem takeWhile_le {l : List C7} {n : Int} : ∀ x ∈ l.takeWhile (fun x => decide (x.i ≤ n)), x.i ≤ n := by
  induction l with
  | nil => intro x hx; simp at hx
  | cons a l ih =>
    intro x hx
    rw [List.takeWhile_cons] at hx
    split at hx
    · rename_i ha
      rcases List.mem_cons.1 hx with rfl | hx
      · simpa using ha
      · exact ih x hx
    · simp at hx
theorem Rises.putL {l : List C7} (h : Rises l) (c : C7) : Rises (putL l c) := by
  unfold Go.Proofs.YtlehcaacfgocaaaGreat.putL
  split
  · exact h
  · rename_i hn
    have hn' : placeI l c.i = none := by simpa using hn
    have e : l.takeWhile (fun x => decide (x.i ≤ c.i)) ++ l.dropWhile (fun x => decide (x.i ≤ c.i)) = l := List.takeWhile_append_dropWhile
    have h' : Rises (l.takeWhile (fun x => decide (x.i ≤ c.i)) ++ l.dropWhile (fun x => decide (x.i ≤ c.i))) := by rw [e]; exact h
    obtain ⟨p1, p2, p3⟩ := List.pairwise_append.1 h'
    have lt : ∀ x ∈ l.takeWhile (fun x => decide (x.i ≤ c.i)), x.i < c.i := fun x hx => by
      have h1 := takeWhile_le x hx
      have h2 := placeI_none hn' x (e ▸ List.mem_append_left _ hx)
      omega
    have gt := dropWhile_gt h c.i
    refine List.pairwise_append.2 ⟨p1, List.pairwise_cons.2 ⟨gt, p2⟩, fun x hx y hy => ?_⟩
    rcases List.mem_cons.1 hy with rfl | hy
    · exact lt x hx
    · exact p3 x hx y hy

/-- Two commands of one name, that are not the same. -/
def Clash (cs : List C7) : Prop := ∃ x ∈ cs, ∃ y ∈ cs, x.i = y.i ∧ x ≠ y
def clashB (cs : List C7) : Bool := cs.any fun x => cs.any fun y => x.i == y.i && !x.same y
theorem clash_iff {cs : List C7} : clashB cs = true ↔ Clash cs := by
  unfold clashB Clash
  simp only [List.any_eq_true, Bool.and_eq_true, beq_iff_eq, Bool.not_eq_true', C7.same_no]
theorem no_clash {cs : List C7} : clashB cs = false ↔ ∀ x ∈ cs, ∀ y ∈ cs, x.i = y.i → x = y := by
  rw [← Bool.not_eq_true, clash_iff]
  unfold Clash
  constructor
  · intro h x hx y hy hi
    by_cases he : x = y
    · exact he
    · exact absurd ⟨x, hx, y, hy, hi, he⟩ h
  · rintro h ⟨x, hx, y, hy, hi, hn⟩
    exact hn (h x hx y hy hi)

def setL (cs : List C7) : List C7 := cs.foldl putL []
theorem setL_snoc (cs : List C7) (c : C7) : setL (cs ++ [c]) = putL (setL cs) c := by simp [setL, List.foldl_append]
theorem snoc_cases {P : List C7 → Prop} (h0 : P []) (h1 : ∀ cs c, P cs → P (cs ++ [c])) : ∀ cs, P cs := fun cs => by
  have : ∀ l : List C7, P l.reverse := fun l => by
    induction l with
    | nil => exact h0
    | cons a l ih => rw [List.reverse_cons]; exact h1 _ _ ih
  have h := this cs.reverse
  rwa [List.reverse_reverse] at h
theorem setL_rises (cs : List C7) : Rises (setL cs) := by
  refine snoc_cases (P := fun cs => Rises (setL cs)) (by simp [setL]) (fun cs c ih => ?_) cs
  rw [setL_snoc]; exact ih.putL c
theorem setL_mem {cs : List C7} (h : clashB cs = false) : ∀ x, x ∈ setL cs ↔ x ∈ cs := by
  have := no_clash.1 h
  revert this
  refine snoc_cases (P := fun cs => (∀ x ∈ cs, ∀ y ∈ cs, x.i = y.i → x = y) → ∀ x, x ∈ setL cs ↔ x ∈ cs) (by simp [setL]) (fun cs c ih h z => ?_) cs
  have ih' := ih fun x hx y hy => h x (List.mem_append_left _ hx) y (List.mem_append_left _ hy)
  rw [setL_snoc]
  rcases hp : placeI (setL cs) c.i with _ | k
  · rw [putL_mem hp, ih', List.mem_append, List.mem_singleton]
  · obtain ⟨_, d, hd, hi⟩ := placeI_some hp
    have hdm : d ∈ cs := (ih' d).1 (List.mem_of_getElem? hd)
    have hdc : d = c := h d (List.mem_append_left _ hdm) c (List.mem_append_right _ (List.mem_cons_self ..)) hi
    rw [putL_has (by simp [hp]), ih', List.mem_append, List.mem_singleton]
    exact ⟨.inl, fun hz => hz.elim id fun e => e ▸ hdc ▸ hdm⟩

/-! What the document's loop does. -/
theorem take_snoc {cs : List C7} {k : Nat} {c : C7} (hc : cs[k]? = some c) : cs.take (k + 1) = cs.take k ++ [c] := by
  rw [List.take_add_one, hc]; rfl
/-! What the program's loop does, over the sorted list. -/
abbrev Sorted7 (s : List C7) : Prop := s.Pairwise fun a b => a.i ≤ b.i
/-- Behind k commands of a sorted list: their set. -/
structure Upto (s : List C7) (k : Nat) (set : List C7) : Prop where
  rises : Rises set
  mem : ∀ x, x ∈ set ↔ x ∈ s.take k
  len : set.length ≤ k
  last : set[set.length - 1]? = (s.take k)[k - 1]?
theorem Upto.start (s : List C7) : Upto s 0 [] := ⟨List.Pairwise.nil, by simp, by simp, by simp⟩
theorem Upto.below {s : List C7} {k : Nat} {set : List C7} (h : Upto s k set) (hs : Sorted7 s) {c : C7} (hc : s[k]? = some c) : ∀ x ∈ set, x.i ≤ c.i := fun x hx => by
  obtain ⟨j, hj⟩ := List.getElem?_of_mem ((h.mem x).1 hx)
  obtain ⟨hjl, rfl⟩ := List.getElem?_eq_some_iff.1 hj
  obtain ⟨hk, rfl⟩ := List.getElem?_eq_some_iff.1 hc
  simp at hjl
  rw [List.getElem_take]
  exact List.pairwise_iff_getElem.1 hs j k (by omega) hk (by omega)
theorem Upto.lastLe {s : List C7} {k : Nat} {set : List C7} (h : Upto s k set) {d : C7} (hd : set[set.length - 1]? = some d) : ∀ x ∈ set, x.i ≤ d.i := fun x hx => by
  obtain ⟨j, hj⟩ := List.getElem?_of_mem hx
  have hjl := (List.getElem?_eq_some_iff.1 hj).1
  by_cases e : j = set.length - 1
  · subst e; rw [hj] at hd; rw [Option.some.inj hd]; omega
  · have := h.rises.at (show j < set.length - 1 by omega) hj hd; omega
theorem Upto.add {s : List C7} {k : Nat} {set : List C7} (h : Upto s k set) (hs : Sorted7 s) {c : C7} (hc : s[k]? = some c) (hn : ∀ d, set[set.length - 1]? = some d → d.i ≠ c.i) : Upto s (k + 1) (set ++ [c]) := by
  have lt : ∀ x ∈ set, x.i < c.i := fun x hx => by
    have h1 := h.below hs hc x hx
    have hl : 0 < set.length := List.length_pos_of_mem hx
    have hd : set[set.length - 1]? = some set[set.length - 1] := List.getElem?_eq_getElem (by omega)
    have h2 := h.lastLe hd x hx
    have h3 := h.below hs hc _ (List.mem_of_getElem? hd)
    have h4 := hn _ hd
    omega
  refine ⟨List.pairwise_append.2 ⟨h.rises, List.pairwise_singleton .., fun x hx y hy => by rw [List.mem_singleton] at hy; subst hy; exact lt x hx⟩, fun x => ?_, by have := h.len; simp; omega, ?_⟩
  · rw [take_snoc hc, List.mem_append, List.mem_append, h.mem]
  · have hk := (List.getElem?_eq_some_iff.1 hc).1
    rw [take_snoc hc]
    simp [Nat.min_eq_left (Nat.le_of_lt hk)]
theorem Upto.stay {s : List C7} {k : Nat} {set : List C7} (h : Upto s k set) {c : C7} (hc : s[k]? = some c) (hd : set[set.length - 1]? = some c) : Upto s (k + 1) set := by
  refine ⟨h.rises, fun x => ?_, by have := h.len; omega, ?_⟩
  · rw [take_snoc hc, List.mem_append, ← h.mem, List.mem_singleton]
    exact ⟨.inl, fun hx => hx.elim id fun e => e ▸ List.mem_of_getElem? hd⟩
  · have hk := (List.getElem?_eq_some_iff.1 hc).1
    rw [hd, take_snoc hc]
    simp [Nat.min_eq_left (Nat.le_of_lt hk)]
theorem Upto.no {s : List C7} {k : Nat} {set : List C7} (h : Upto s k set) {c d : C7} (hc : s[k]? = some c) (hd : set[set.length - 1]? = some d) (hi : d.i = c.i) (hne : d.same c = false) : clashB s = true :=
  clash_iff.2 ⟨d, List.mem_of_mem_take ((h.mem d).1 (List.mem_of_getElem? hd)), c, List.mem_of_getElem? hc, hi, C7.same_no.1 hne⟩
theorem Upto.whole {s : List C7} {set : List C7} (h : Upto s s.length set) : clashB s = false ∧ set = setL s := by
  have hm : ∀ x, x ∈ set ↔ x ∈ s := fun x => by rw [h.mem, List.take_length]
  have hn : clashB s = false := no_clash.2 fun x hx y hy hi => h.rises.inj ((hm x).2 hx) ((hm y).2 hy) hi
  exact ⟨hn, h.rises.one (setL_rises s) fun x => by rw [hm, setL_mem hn]⟩
/-! What is left, names, and whether a list is a set. -/
def minusL (a b : List C7) : List C7 := a.filter fun c => (placeI b c.i).isNone
theorem minus_keep {a b : List C7} {k : Nat} {c : C7} (hc : a[k]? = some c) (h : placeI b c.i = none) : minusL (a.take (k + 1)) b = minusL (a.take k) b ++ [c] := by
  unfold minusL; rw [take_snoc hc, List.filter_append]; simp [h]
theorem minus_drop {a b : List C7} {k j : Nat} {c : C7} (hc : a[k]? = some c) (h : placeI b c.i = some j) : minusL (a.take (k + 1)) b = minusL (a.take k) b := by
  unfold minusL; rw [take_snoc hc, List.filter_append]; simp [h]
theorem minus_len (a b : List C7) : (minusL a b).length ≤ a.length := List.length_filter_le ..
def idsL (l : List C7) : List Int := l.map C7.i
theorem ids_has {l : List C7} {id : Int} : (idsL l).contains id = (placeI l id).isSome := by
  rw [Bool.eq_iff_iff]
  unfold idsL
  simp only [List.contains_iff_mem, List.mem_map]
  constructor
  · rintro ⟨c, hc, rfl⟩
    rcases hp : placeI l c.i with _ | k
    · exact absurd rfl (placeI_none hp c hc)
    · rfl
  · intro h
    obtain ⟨k, hk⟩ := Option.isSome_iff_exists.1 h
    obtain ⟨_, c, hc, hi⟩ := placeI_some hk
    exact ⟨c, List.mem_of_getElem? hc, hi⟩
/-- The first k names rise. -/
def RiseTo (l : List C7) (k : Nat) : Prop := ∀ j, 1 ≤ j → j < k → ∀ x y, l[j - 1]? = some x → l[j]? = some y → x.i < y.i
theorem RiseTo.lt {l : List C7} : ∀ (b a : Nat), RiseTo l l.length → a < b → ∀ x y, l[a]? = some x → l[b]? = some y → x.i < y.i
  | 0, a, _, hab, _, _, _, _ => absurd hab (by omega)
  | b + 1, a, h, hab, x, y, hx, hy => by
    have hb := (List.getElem?_eq_some_iff.1 hy).1
    have hz : l[b]? = some l[b] := List.getElem?_eq_getElem (by omega)
    have h1 := h (b + 1) (by omega) hb _ _ hz hy
    by_cases e : a = b
    · subst e; rw [hx] at hz; rw [Option.some.inj hz]; exact h1
    · have := RiseTo.lt b a h (by omega) x _ hx hz; omega
theorem RiseTo.rises {l : List C7} (h : RiseTo l l.length) : Rises l :=
  List.pairwise_iff_getElem.2 fun a b ha hb hab => RiseTo.lt b a h hab _ _ (List.getElem?_eq_getElem ha) (List.getElem?_eq_getElem hb)
def risesB (l : List C7) : Bool := decide (Rises l)
theorem RiseTo.yes {l : List C7} (h : RiseTo l l.length) : risesB l = true := decide_eq_true h.rises
theorem rises_no {l : List C7} {k : Nat} {x y : C7} (hx : l[k - 1]? = some x) (hy : l[k]? = some y) (hk : 1 ≤ k) (h : y.i ≤ x.i) : risesB l = false :=
  decide_eq_false fun hr => by have := hr.at (show k - 1 < k by omega) hx hy; omega
def setB (l : List C7) : Bool := decide (l.length ≤ 1024) && l.all C7.ok && risesB l
/-! The law of sets. -/
end Go.Proofs.YtlehcaacfgocaaaGreat
/- Slices of commands in memory: as they come in, and as the calls make them. -/
namespace Go.Proofs.YtlehcaacfgocaaaGreat
open Go.RowKit
open Go.Lib (hid)

/-- The cells of commands, one behind the other. -/
def flat : List C7 → List Value
  | [] => []
  | c :: cs => c.cells ++ flat cs
theorem flat_len : ∀ cs : List C7, (flat cs).length = cs.length * 7
  | [] => rfl
  | c :: cs => by rw [flat, List.length_append, flat_len cs, List.length_cons]; simp; omega
theorem flat_append : ∀ a b : List C7, flat (a ++ b) = flat a ++ flat b
  | [], b => rfl
  | c :: a, b => by rw [List.cons_append, flat, flat, flat_append a b, List.append_assoc]
theorem flat_single (c : C7) : flat [c] = c.cells := by simp [flat]
theorem flat_one : ∀ (cs : List C7), ∀ u ∈ flat cs, u.oneCell' = true
  | [], u, hu => by simp [flat] at hu
  | c :: cs, u, hu => by
    rw [flat] at hu
    rcases List.mem_append.1 hu with hu | hu
    · simp at hu; rcases hu with rfl | rfl | rfl | rfl | rfl | rfl | rfl <;> rfl
    · exact flat_one cs u hu
theorem flat_at : ∀ (cs : List C7) (j : Nat) (c : C7), cs[j]? = some c → ∀ (f : Nat) v, c.cells[f]? = some v → (flat cs)[j * 7 + f]? = some v
  | [], j, c, h, _, _, _ => by simp at h
  | d :: cs, 0, c, h, f, v, hv => by
    simp at h; subst h
    have hf := (List.getElem?_eq_some_iff.1 hv).1
    rw [flat, Nat.zero_mul, Nat.zero_add, List.getElem?_append_left hf]; exact hv
  | d :: cs, j + 1, c, h, f, v, hv => by
    have := flat_at cs j c (by simpa using h) f v hv
    have h7 : d.cells.length = 7 := rfl
    rw [flat, List.getElem?_append_right (by omega), h7, show (j + 1) * 7 + f - 7 = j * 7 + f by omega]
    exact this
theorem flat_of (cs : List C7) (n : Nat) (v : Value) (h : (flat cs)[n]? = some v) : ∃ c, cs[n / 7]? = some c ∧ c.cells[n % 7]? = some v := by
  have hl := (List.getElem?_eq_some_iff.1 h).1
  rw [flat_len] at hl
  have hc : cs[n / 7]? = some (cs[n / 7]'(by omega)) := List.getElem?_eq_getElem (by omega)
  refine ⟨_, hc, ?_⟩
  have h7 : n % 7 < (cs[n / 7]'(by omega)).cells.length := Nat.mod_lt _ (by decide)
  have hv : (cs[n / 7]'(by omega)).cells[n % 7]? = some ((cs[n / 7]'(by omega)).cells[n % 7]) := List.getElem?_eq_getElem h7
  have := flat_at cs _ _ hc _ _ hv
  rw [show n / 7 * 7 + n % 7 = n by omega, h] at this
  rw [hv]; exact this.symm

/-- A slice that the call itself made holds the commands. -/
abbrev Own (w : World) (B : Nat) (v : Value) (cs : List C7) : Prop := w.ownsRow B 45 7 v cs.length (flat cs)
theorem Own.nil (w : World) (B : Nat) : Own w B (.slice none 0 0) [] := World.ownsRow_nil _ _ _ _
theorem Own.shape {w : World} {B : Nat} {v : Value} {cs : List C7} (h : Own w B v cs) :
    (v = .slice none 0 0 ∧ cs = []) ∨ ∃ g cap, v = .slice (some ⟨g, 0, none⟩) cs.length cap ∧ B ≤ g ∧ g < w.heap.size ∧ CmsAt w g 0 cs := by
  have hl := h.lt
  have hcl := fun g (hg : v.ownBlock = some g) => h.cells hg
  rcases h.2 with ⟨rfl, h0⟩ | ⟨g, cap, cur, rfl, hb, hg, hn, hm, hs, ht⟩
  · exact .inl ⟨rfl, List.length_eq_zero_iff.1 h0⟩
  · refine .inr ⟨g, cap, rfl, hb, (hl g rfl).2, fun j c hc f v hv => ?_⟩
    have := hcl g rfl _ _ (flat_at cs j c hc f v hv)
    rw [show (⟨g, 0, none⟩ : Addr).add (j * 7 + f) = ⟨g, 0 + (j * 7 + f), none⟩ from by unfold Addr.add; split <;> simp_all] at this
    exact this

/-- A slice of commands. -/
def Sl (w : World) (v : Value) (cs : List C7) : Prop :=
  ∃ (b o cap : Nat) (a : Option Addr), v = .slice a cs.length cap ∧ (a = none → cap = 0) ∧ (0 < cs.length → a = some ⟨b, o, none⟩) ∧ CmsAt w b o cs ∧ (0 < cs.length → b < w.heap.size)
theorem Own.sl {w : World} {B : Nat} {v : Value} {cs : List C7} (h : Own w B v cs) : Sl w v cs := by
  rcases h.shape with ⟨rfl, rfl⟩ | ⟨g, cap, rfl, hb, hl, hc⟩
  · exact ⟨0, 0, 0, none, rfl, fun _ => rfl, fun h => absurd h (by simp), fun j c hc => by simp at hc, fun h => absurd h (by simp)⟩
  · exact ⟨g, 0, cap, _, rfl, fun h => by simp at h, fun _ => rfl, hc, fun _ => hl⟩
theorem Sl.on {w w' : World} {v : Value} {cs : List C7} (h : Sl w v cs) (hb : Below w.heap.size w w') : Sl w' v cs := by
  obtain ⟨b, o, cap, a, rfl, hn, ha, hc, hl⟩ := h
  refine ⟨b, o, cap, a, rfl, hn, ha, ?_, fun h0 => by have := hl h0; have := hb.size; omega⟩
  intro j c hj
  have h0 : 0 < cs.length := by have := (List.getElem?_eq_some_iff.1 hj).1; omega
  exact hc.on hb (hl h0) j c hj
theorem Sl.src {w : World} {v : Value} {cs : List C7} (h : Sl w v cs) :
    (v = .slice none 0 0 ∧ cs = []) ∨ ∃ ad cap, v = .slice (some ad) cs.length cap ∧ (∀ (j : Nat) u, (flat cs)[j]? = some u → w.cell? (ad.add j) = some u) ∧ (flat cs ≠ [] → ad.block < w.heap.size) := by
  obtain ⟨b, o, cap, a, rfl, hn, ha, hc, hl⟩ := h
  rcases a with _ | ad
  · have h0 : cs.length = 0 := by
      rcases Nat.eq_zero_or_pos cs.length with h | h
      · exact h
      · have := ha h; simp at this
    exact .inl ⟨by rw [hn rfl, h0], List.length_eq_zero_iff.1 h0⟩
  · refine .inr ⟨ad, cap, rfl, fun j u hu => ?_, fun h0 => ?_⟩
    · obtain ⟨c, hj, hv⟩ := flat_of cs j u hu
      have h0 : 0 < cs.length := by have := (List.getElem?_eq_some_iff.1 hj).1; omega
      obtain rfl := Option.some.inj (ha h0)
      have := hc _ _ hj _ _ hv
      rw [show j / 7 * 7 + j % 7 = j by omega] at this
      rw [show (⟨b, o, none⟩ : Addr).add j = ⟨b, o + j, none⟩ from by unfold Addr.add; split <;> simp_all]
      exact this
    · have h0 : 0 < cs.length := by
        rcases cs with _ | _
        · simp [flat] at h0
        · simp
      obtain rfl := Option.some.inj (ha h0)
      exact hl h0

theorem Tryz.infoC : (Tryz.prog.info? 45).map (fun i => (i.zero, i.size, i.bytes)) = some (some (.agg #[.int .i64 0, .int .i64 0, .int .i64 0, .int .i64 0, .int .i64 0, .int .i64 0, .int .i64 0]), 7, 56) := by kernel_rfl
theorem Tryz.infoI : (Tryz.prog.info? 3).map (fun i => (i.zero, i.size, i.bytes)) = some (some (.int .i64 0), 1, 8) := by kernel_rfl

abbrev C7.v (c : C7) : Value := cmV c.i c.k c.s c.t c.d c.p c.q

theorem cRight' {v : Value} {cs : List C7} {w : World} (h : Sl w v cs) (hl : cs.length ≤ 100000) : Calls Tryz.prog 64 #[v] w fun e w' => e = .returned (.bool (cs.all C7.ok)) ∧ Below w.heap.size w w' := by
  obtain ⟨b, o, cap, a, rfl, hn, ha, hc, hb⟩ := h
  exact cRight b o cap a cs ha hl w hc hb
theorem rRights' {v : Value} {cs : List C7} {w : World} (h : Sl w v cs) (hl : cs.length ≤ 100000) : Calls Tryz.prog 82 #[v] w fun e w' => e = .returned (.bool (cs.all C7.ok)) ∧ Below w.heap.size w w' := by
  obtain ⟨b, o, cap, a, rfl, hn, ha, hc, hb⟩ := h
  exact rRights b o cap a cs ha hl w hc hb
end Go.Proofs.YtlehcaacfgocaaaGreat
/- Whether two commands, and two lists of them, are the same: the model's comparison of commands; the document's Same, the program's, and has. -/
namespace Go.Proofs.YtlehcaacfgocaaaGreat
open Go.RowKit
open Go.Lib (hid)

theorem equalC (a b : C7) (w : World) : Sem.run Tryz.prog (Op.equalIn 10000 45 a.v b.v) w = .ok (a.same b) w := by
  have u3 := Tryz.underlying3
  have a3 := Tryz.isAgg3
  have z3 := Tryz.sizeOf3
  have u31 := Tryz.underlying42
  have a31 := Tryz.isAgg42
  have z31 := Tryz.sizeOf42
  have u32 := Tryz.underlying43
  have a32 := Tryz.isAgg43
  have z32 := Tryz.sizeOf43
  have hS : Tryz.prog.underlying 45 = some (.struct (Tryz.prog.fieldsOf 45)) := by kernel_rfl
  have hp : Tryz.prog.stoodInHeld 45 = false := by kernel_rfl
  simp only [C7.v, cmV]
  rw [show (10000 : Nat) = 9999 + 1 from rfl, run_equalIn_agg w 9999 45 _ _ hS hp]
  simp only [Program.fieldsOf, Tryz.underlying45]
  go_simp
  unfold C7.same
  by_cases h1 : a.i = b.i
  · by_cases h2 : a.k = b.k
    · by_cases h3 : a.s = b.s
      · by_cases h4 : a.t = b.t
        · by_cases h5 : a.d = b.d
          · by_cases h6 : a.p = b.p
            · by_cases h7 : a.q = b.q
              · simp [h1, h2, h3, h4, h5, h6, h7]
              · simp [h1, h2, h3, h4, h5, h6, h7]
            · simp [h1, h2, h3, h4, h5, h6]
          · simp [h1, h2, h3, h4, h5]
        · simp [h1, h2, h3, h4]
      · simp [h1, h2, h3]
    · simp [h1, h2]
  · simp [h1]

theorem eqlC {a b : C7} {r : Bool} (h : a.same b = r) (w : World) : Sem.run Tryz.prog (binOp .eql 45 a.v b.v) w = .ok (.bool r) w := by
  rw [C7.v, C7.v, cmV, cmV, run_eql_struct]
  have := equalC a b w
  rw [C7.v, C7.v, cmV, cmV] at this
  rw [this, h]; rfl
theorem neqC {a b : C7} {r : Bool} (h : a.same b = r) (w : World) : Sem.run Tryz.prog (binOp .neq 45 a.v b.v) w = .ok (.bool (!r)) w := by
  rw [C7.v, C7.v, cmV, cmV, run_neq_struct]
  have := equalC a b w
  rw [C7.v, C7.v, cmV, cmV] at this
  rw [this, h]; rfl
theorem guardC (op : BinOp) (x y : Operand) (a b : C7) (w : World) : Sem.run Tryz.prog (eqGuard op 45 x y a.v b.v) w = .ok () w := run_eqGuard_agg w op 45 x y _ _ (by kernel_rfl)

/-- The commands from an address on, one of them. -/
theorem Sl.open {w : World} {v : Value} {cs : List C7} (h : Sl w v cs) : ∃ (b o cap : Nat) (a : Option Addr), v = .slice a cs.length cap ∧ (0 < cs.length → a = some ⟨b, o, none⟩) ∧ CmsAt w b o cs ∧ (0 < cs.length → b < w.heap.size) := by
  obtain ⟨b, o, cap, a, hv, _, ha, hc, hb⟩ := h
  exact ⟨b, o, cap, a, hv, ha, hc, hb⟩

end Go.Proofs.YtlehcaacfgocaaaGreat
/- Whether two lists of commands are the same, one by one: the document's Same. -/
namespace Go.Proofs.YtlehcaacfgocaaaGreat
set_option linter.unusedVariables false
open Go.RowKit
open Go.Lib (hid)

def sameB (a b : List C7) : Bool := decide (a = b)
theorem same_len {a b : List C7} (h : ¬ a.length = b.length) : sameB a b = false := decide_eq_false fun e => h (by rw [e])
theorem same_no {a b : List C7} {k : Nat} {x y : C7} (hx : a[k]? = some x) (hy : b[k]? = some y) (h : x.same y = false) : sameB a b = false := decide_eq_false fun e => by
  subst e; rw [hx] at hy; exact C7.same_no.1 h (Option.some.inj hy)
theorem same_yes {a b : List C7} {k : Nat} (hl : a.length = b.length) (hk : a.length ≤ k) (h : ∀ j, j < k → ∀ x, a[j]? = some x → ∀ y, b[j]? = some y → x.same y = true) : sameB a b = true := decide_eq_true (List.ext_getElem hl fun j h1 h2 => C7.same_iff.1 (h j (by omega) _ (List.getElem?_eq_getElem h1) _ (List.getElem?_eq_getElem h2)))
theorem same_next {a b : List C7} {k : Nat} {x y : C7} (h : ∀ j, j < k → ∀ x, a[j]? = some x → ∀ y, b[j]? = some y → x.same y = true) (hx : a[k]? = some x) (hy : b[k]? = some y) (hs : x.same y = true) : ∀ j, j < k + 1 → ∀ x, a[j]? = some x → ∀ y, b[j]? = some y → x.same y = true := fun j hj u hu v hv => by
  by_cases e : j = k
  · subst e; rw [hx] at hu; rw [hy] at hv; rw [← Option.some.inj hu, ← Option.some.inj hv]; exact hs
  · exact h j (by omega) u hu v hv

end Go.Proofs.YtlehcaacfgocaaaGreat
/- The document's SameValue, of one value twice. -/
namespace Go.Proofs.YtlehcaacfgocaaaGreat
set_option linter.unusedVariables false
open Go.RowKit
open Go.Lib (hid)

end Go.Proofs.YtlehcaacfgocaaaGreat
/- The mathematics of numbers as bytes: seven bits in each, the lowest first; what is put is taken, and its bytes are the only ones. -/
namespace Go.Proofs.YtlehcaacfgocaaaGreat

/-- A number's bytes. -/
def oneN (n : Nat) : List UInt8 :=
  if h : n < 128 then [UInt8.ofNat n] else UInt8.ofNat (n % 128 + 128) :: oneN (n / 128)
termination_by n
decreasing_by omega
/-! A reader: the bytes that are left, and what went wrong. -/
abbrev St := List UInt8 × Int
end Go.Proofs.YtlehcaacfgocaaaGreat
