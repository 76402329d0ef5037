import Derived.Test.YtogoibigabpkhaaGreatG09
import Derived.Test.YtogoibigabpkhaaGreatG06
import Derived.Test.YtogoibigabpkhaaGreatRows
import Derived.WalkKit
import Derived.LoopTactic
import Derived.ProofKit
import Derived.Lib.Hide
import Derived.Laws.AppendOwn
import Derived.Laws.AppendOwnNone
import Derived.Laws.OwnMore
import Derived.OwnWalk
import Derived.WalkMore
import Derived.Lib.SliceRun
import Derived.Laws.BytesArg
import Derived.Laws.IdiomStrings
import Derived.Laws.CopyOwn
import Derived.Deep.QuietTactic
import Derived.BigQuiet
import Derived.BigRegion
import Derived.RegionTactic


/- Slices whose elements take several cells, for whatever elements; entries, in slices. -/
namespace Go.Proofs.YtogoibigabpkhaaGreat
set_option linter.unusedVariables false
open Go.RowKit
open Go.Lib (hid)

section
variable {α : Type}
def flatG (cl : α → List Value) (xs : List α) : List Value := xs.flatMap cl
theorem flatG_nil (cl : α → List Value) : flatG cl [] = [] := rfl
theorem flatG_cons (cl : α → List Value) (x : α) (xs : List α) : flatG cl (x :: xs) = cl x ++ flatG cl xs := by simp [flatG]
theorem flatG_append (cl : α → List Value) (a b : List α) : flatG cl (a ++ b) = flatG cl a ++ flatG cl b := by simp [flatG]
theorem flatG_one (cl : α → List Value) (x : α) : flatG cl [x] = cl x := by simp [flatG]
theorem flatG_len {cl : α → List Value} {K : Nat} (hk : ∀ x, (cl x).length = K) : ∀ xs : List α, (flatG cl xs).length = xs.length * K
  | [] => by simp [flatG]
  | x :: xs => by rw [flatG_cons, List.length_append, hk, flatG_len hk xs, List.length_cons, Nat.add_mul]; omega
theorem flatG_at {cl : α → List Value} {K : Nat} (hk : ∀ x, (cl x).length = K) : ∀ (xs : List α) (j : Nat) (x : α), xs[j]? = some x → ∀ (f : Nat) v, (cl x)[f]? = some v → (flatG cl xs)[j * K + f]? = some v
  | [], j, x, h, _, _, _ => by simp at h
  | d :: xs, 0, x, h, f, v, hv => by
    simp at h; subst h
    have hf := (List.getElem?_eq_some_iff.1 hv).1
    rw [flatG_cons, Nat.zero_mul, Nat.zero_add, List.getElem?_append_left hf]; exact hv
  | d :: xs, j + 1, x, h, f, v, hv => by
    have := flatG_at hk xs j x (by simpa using h) f v hv
    have h7 : (cl d).length = K := hk d
    rw [flatG_cons, List.getElem?_append_right (by rw [h7, Nat.add_mul]; omega), h7, show (j + 1) * K + f - K = j * K + f by rw [Nat.add_mul]; omega]
    exact this
theorem flatG_all {cl : α → List Value} (h1 : ∀ x, ∀ u ∈ cl x, u.oneCell' = true) (xs : List α) : ∀ u ∈ flatG cl xs, u.oneCell' = true := fun u hu => by
  obtain ⟨x, _, hx⟩ := List.mem_flatMap.1 hu
  exact h1 x u hx
def RowsG (cl : α → List Value) (K : Nat) (w : World) (b o : Nat) (xs : List α) : Prop := ∀ (j : Nat) x, xs[j]? = some x → w.rangeAt b (o + j * K) (cl x)
def SlG (cl : α → List Value) (K : Nat) (w : World) (v : Value) (xs : List α) : Prop :=
  ∃ (b o cap : Nat) (a : Option Addr), v = .slice a xs.length cap ∧ (0 < xs.length → a = some ⟨b, o, none⟩) ∧ RowsG cl K w b o xs ∧ (0 < xs.length → b < w.heap.size)
theorem RowsG.on {cl : α → List Value} {K : Nat} {w w' : World} {b o B : Nat} {xs : List α} (h : RowsG cl K w b o xs) (hb : Below B w w') (hB : 0 < xs.length → b < B) : RowsG cl K w' b o xs := fun j x hx i v hv => by
  have h0 : 0 < xs.length := by have := (List.getElem?_eq_some_iff.1 hx).1; omega
  exact (hb.cell (p := ⟨b, _, none⟩) (hB h0)).trans (h j x hx i v hv)
theorem SlG.on {cl : α → List Value} {K : Nat} {w w' : World} {v : Value} {xs : List α} (h : SlG cl K w v xs) (hb : Below w.heap.size w w') : SlG cl K w' v xs := by
  obtain ⟨b, o, cap, a, rfl, ha, hr, hl⟩ := h
  exact ⟨b, o, cap, a, rfl, ha, hr.on hb hl, fun h0 => Nat.lt_of_lt_of_le (hl h0) hb.size⟩
theorem SlG.nil (cl : α → List Value) (K : Nat) (w : World) : SlG cl K w (.slice none 0 0) [] := ⟨0, 0, 0, none, rfl, fun h => absurd h (by simp), fun j x h => by simp at h, fun h => absurd h (by simp)⟩
abbrev OwnG (cl : α → List Value) (K : Nat) (T : TypeId) (w : World) (B : Nat) (v : Value) (xs : List α) : Prop := w.ownsRow B T K v xs.length (flatG cl xs)
theorem OwnG.nil (cl : α → List Value) (K : Nat) (T : TypeId) (w : World) (B : Nat) : OwnG cl K T w B (.slice none 0 0) [] := World.ownsRow_nil _ _ _ _
theorem addr_add (g j : Nat) : (⟨g, 0, none⟩ : Addr).add j = ⟨g, j, none⟩ := by unfold Addr.add; split <;> simp_all
theorem addr_add' (g o j : Nat) : (⟨g, o, none⟩ : Addr).add j = ⟨g, o + j, none⟩ := by unfold Addr.add; split <;> simp_all
theorem OwnG.slG {cl : α → List Value} {K : Nat} {T : TypeId} {w : World} {B : Nat} {v : Value} {xs : List α} (hk : ∀ x, (cl x).length = K) (h : OwnG cl K T w B v xs) : SlG cl K w v xs := by
  have hl := h.lt
  have hcl := fun g (hg : v.ownBlock = some g) => h.cells hg
  rcases h.2 with ⟨rfl, h0⟩ | ⟨g, cap, cur, rfl, hb, hg, hn, hm, hs, ht⟩
  · obtain rfl : xs = [] := List.length_eq_zero_iff.1 h0
    exact SlG.nil _ _ _
  · refine ⟨g, 0, cap, _, rfl, fun _ => rfl, fun j x hx f v hv => ?_, fun _ => (hl g rfl).2⟩
    have := hcl g rfl _ _ (flatG_at hk xs j x hx f v hv)
    rw [addr_add] at this
    rw [show 0 + j * K + f = j * K + f by omega]; exact this
theorem OwnG.asSlice {cl : α → List Value} {K : Nat} {T : TypeId} {w : World} {B : Nat} {v : Value} {xs : List α} (h : OwnG cl K T w B v xs) : ∃ (g : Option Addr) (cap n : Nat), v = .slice g n cap ∧ n = xs.length := by
  rcases h.2 with ⟨rfl, h0⟩ | ⟨g, cap, cur, rfl, _⟩
  · exact ⟨none, 0, 0, rfl, h0.symm⟩
  · exact ⟨_, cap, _, rfl, rfl⟩
theorem OwnG.on {cl : α → List Value} {K : Nat} {T : TypeId} {w w' : World} {B : Nat} {v : Value} {xs : List α} (h : OwnG cl K T w B v xs) (hb : Below w.heap.size w w') : OwnG cl K T w' B v xs := own_below h hb fun k hk => (h.lt k hk).2
theorem OwnG.mono {cl : α → List Value} {K : Nat} {T : TypeId} {w : World} {B B' : Nat} {v : Value} {xs : List α} (h : OwnG cl K T w B v xs) (hB : B' ≤ B) : OwnG cl K T w B' v xs := own_monoB h hB
theorem OwnG.grows {cl : α → List Value} {K : Nat} {T : TypeId} {w W0 w1 : World} {B n : Nat} {v v' : Value} {xs : List α} {x : α} (hB : Below B w W0) (hsz : B ≤ W0.heap.size) (hlt : ∀ k, v.ownBlock = some k → B ≤ k)
    (hown' : w1.ownsRow B T K v' n (flatG cl xs ++ cl x)) (hn : n = xs.length + 1) (hg : W0.grownBy w1 v.ownBlock) : OwnG cl K T w1 B v' (xs ++ [x]) ∧ Below B w w1 :=
  ⟨by unfold OwnG; rw [flatG_append, flatG_one, List.length_append, List.length_singleton, ← hn]; exact hown', hB.grown hg hsz hlt⟩
end

abbrev kE : ∀ e : Ev, e.list.length = 19 := Ev.len
theorem oneE (e : Ev) : ∀ u ∈ e.list, u.oneCell' = true := fun u hu => by
  have := Array.all_eq_true_iff_forall_mem.1 (Ev.one e) u
  exact this (by rw [← Array.mem_toList_iff, Ev.toList]; exact hu)
/-- A slice of entries, of the program's or the document's. -/
abbrev SlE (w : World) (v : Value) (es : List Ev) : Prop := SlG Ev.list 19 w v es
abbrev OwnE (w : World) (B : Nat) (v : Value) (es : List Ev) : Prop := OwnG Ev.list 19 44 w B v es
abbrev OwnR (w : World) (B : Nat) (v : Value) (es : List Ev) : Prop := OwnG Ev.list 19 74 w B v es
theorem zE_cells : zE.arr.toList = zE.list := Ev.toList _
theorem Tryz.infoEz : (Tryz.prog.info? 44).map (fun i => (i.zero, i.size, i.bytes)) = some (some (.agg #[.int .i64 0, .int .i64 0, .int .i64 0, .int .i64 0, .int .i64 0, .int .i64 0, .int .i64 0, .int .i64 0, .int .i64 0, .int .i64 0, .int .i64 0, .slice none 0 0, .int .i64 0, .int .i64 0, .slice none 0 0, .bool false, .bool false, .int .i64 0, .slice none 0 0]), 19, 192) := by kernel_rfl
theorem Tryz.infoRz : (Tryz.prog.info? 74).map (fun i => (i.zero, i.size, i.bytes)) = some (some (.agg #[.int .i64 0, .int .i64 0, .int .i64 0, .int .i64 0, .int .i64 0, .int .i64 0, .int .i64 0, .int .i64 0, .int .i64 0, .int .i64 0, .int .i64 0, .slice none 0 0, .int .i64 0, .int .i64 0, .slice none 0 0, .bool false, .bool false, .int .i64 0, .slice none 0 0]), 19, 192) := by kernel_rfl
/-- An entry, and its three sets. -/
structure En where
  e : Ev
  f : List C7
  a : List C7
  v : List C7
def En.at (w : World) (x : En) : Prop := Sl w x.e.fp.v x.f ∧ Sl w x.e.xp.v x.a ∧ Sl w x.e.vp.v x.v
theorem En.at.on {w w' : World} {x : En} (h : x.at w) (hb : Below w.heap.size w w') : x.at w' := ⟨h.1.on hb, h.2.1.on hb, h.2.2.on hb⟩
abbrev En.right (x : En) : Bool := rightE x.e x.f x.a x.v
abbrev En.id (x : En) : Int := x.e.c.i
/-- The sets are short. -/
def En.short (n : Nat) (x : En) : Prop := x.f.length ≤ n ∧ x.a.length ≤ n ∧ x.v.length ≤ n
/-- What it holds, wherever its sets lie. -/
def En.ct (x : En) : Ev × List C7 × List C7 × List C7 := ({ x.e with fp := ⟨none, 0, 0⟩, xp := ⟨none, 0, 0⟩, vp := ⟨none, 0, 0⟩ }, x.f, x.a, x.v)
def AllAt (w : World) (xs : List En) : Prop := ∀ x ∈ xs, x.at w
theorem AllAt.on {w w' : World} {xs : List En} (h : AllAt w xs) (hb : Below w.heap.size w w') : AllAt w' xs := fun x hx => (h x hx).on hb
end Go.Proofs.YtogoibigabpkhaaGreat
/- Bytes and numbers in memory: as they come in, and as the calls make them. -/
namespace Go.Proofs.YtogoibigabpkhaaGreat
set_option linter.unusedVariables false
open Go.RowKit
open Go.Lib (hid)

set_option linter.unusedVariables false
open Go.RowKit
open Go.Lib (hid)

set_option linter.unusedVariables false
open Go.RowKit
open Go.Lib (hid)

set_option linter.unusedVariables false
open Go.RowKit
open Go.Lib (hid)

theorem new_one {W : World} {x : Value} {T : TypeId} {g : Nat} (hg : g = W.heap.size) : ∀ (j : Nat) u, [x][j]? = some u → (W.alloc (.cells #[x] T)).cell? ((⟨g, 0, none⟩ : Addr).add j) = some u := by
  intro j u hj
  subst hg
  rw [show (⟨W.heap.size, 0, none⟩ : Addr).add j = ⟨W.heap.size, j, none⟩ from by unfold Addr.add; split <;> simp_all, World.cell?_alloc_new, List.getElem?_toArray]
  exact hj
theorem own_one {w W0 w1 : World} {B : Nat} {v v' : Value} {l : List UInt8} {r : Nat} (hr : r < 256) (hB : Below B w W0) (hsz : B ≤ W0.heap.size) (hlt : ∀ k, v.ownBlock = some k → B ≤ k)
    (hown' : w1.ownsRow B 5 1 v' (l.length + 1) (octs l ++ [.int .u8 r])) (hg : W0.grownBy w1 v.ownBlock) : OwnB w1 B v' (l ++ [UInt8.ofNat r]) ∧ Below B w w1 := by
  refine ⟨?_, hB.grown hg hsz hlt⟩
  unfold OwnB
  rw [octs_append, List.length_append]
  rw [show octs [UInt8.ofNat r] = [.int .u8 r] from by simp [octs, Nat.mod_eq_of_lt hr]]
  exact hown'
set_option linter.unusedVariables false
open Go.RowKit
open Go.Lib (hid)

set_option linter.unusedVariables false
open Go.RowKit
open Go.Lib (hid)

set_option linter.unusedVariables false
open Go.RowKit
open Go.Lib (hid)

abbrev strB (l : List UInt8) : Value := .string ⟨l.toArray⟩
set_option linter.unusedVariables false
open Go.RowKit
open Go.Lib (hid)

end Go.Proofs.YtogoibigabpkhaaGreat

/- Lists by their names, rising: the document's place, and what is kept; logs that are torn anywhere. -/
namespace Go.Proofs.YtogoibigabpkhaaGreat
set_option linter.unusedVariables false

theorem snocRec {α : Type} {motive : List α → Prop} (nil : motive []) (snoc : ∀ xs x, motive xs → motive (xs ++ [x])) (xs : List α) : motive xs := by
  have : ∀ n (xs : List α), xs.length = n → motive xs := by
    intro n
    induction n with
    | zero => intro xs h; rw [List.length_eq_zero_iff.1 h]; exact nil
    | succ n ih =>
      intro xs h
      rcases List.eq_nil_or_concat xs with e | ⟨l, x, e⟩
      · subst e; exact nil
      · subst e; rw [List.concat_eq_append] at h ⊢; exact snoc l x (ih l (by simp at h; exact h))
  exact this _ xs rfl

section
variable {α β : Type} (k : α → Int)
/-- One round of the document's put. -/
def putStep (x : α) (s : List α × Bool) (y : α) : List α × Bool :=
  ((if !s.2 && decide (k x ≤ k y) then s.1 ++ [x] else s.1) ++ (if k y ≠ k x then [y] else []), s.2 || decide (k x ≤ k y))
def putEnd (x : α) (s : List α × Bool) : List α := if s.2 = true then s.1 else s.1 ++ [x]
def placeG (x : α) (l : List α) : List α := putEnd x (l.foldl (putStep k x) ([], false))
def placeR (x : α) : List α → List α
  | [] => [x]
  | y :: l => if k x ≤ k y then x :: (y :: l).filter (fun z => decide (k z ≠ k x)) else y :: placeR x l
theorem put_done (x : α) : ∀ (l : List α) (out : List α), l.foldl (putStep k x) (out, true) = (out ++ l.filter (fun z => decide (k z ≠ k x)), true)
  | [], out => by simp
  | y :: l, out => by
    rw [List.foldl_cons]
    have : putStep k x (out, true) y = (out ++ (if k y ≠ k x then [y] else []), true) := by simp [putStep]
    rw [this, put_done x l]
    by_cases h : k y = k x <;> simp [h]
theorem put_not (x : α) : ∀ (l : List α) (out : List α), putEnd x (l.foldl (putStep k x) (out, false)) = out ++ placeR k x l
  | [], out => by simp [putEnd, placeR]
  | y :: l, out => by
    rw [List.foldl_cons]
    by_cases h : k x ≤ k y
    · have e : putStep k x (out, false) y = (out ++ [x] ++ (if k y ≠ k x then [y] else []), true) := by simp [putStep, h]
      rw [e, put_done]
      simp only [putEnd, placeR, h, if_true]
      by_cases h2 : k y = k x <;> simp [h2]
    · have hne : k y ≠ k x := by omega
      have e : putStep k x (out, false) y = (out ++ [y], false) := by simp [putStep, h, hne]
      rw [e, put_not x l]
      simp [placeR, h]
theorem place_eq (x : α) (l : List α) : placeG k x l = placeR k x l := by
  unfold placeG; rw [put_not]; simp
def Up (l : List α) : Prop := l.Pairwise fun a b => k a < k b
theorem place_mem (x : α) : ∀ (l : List α), Up k l → ∀ y, y ∈ placeR k x l ↔ y = x ∨ (y ∈ l ∧ k y ≠ k x)
  | [], _, y => by simp [placeR]
  | z :: l, h, y => by
    obtain ⟨h1, h2⟩ := List.pairwise_cons.1 h
    unfold placeR
    by_cases hx : k x ≤ k z
    · rw [if_pos hx, List.mem_cons, List.mem_filter]; simp
    · rw [if_neg hx, List.mem_cons, place_mem x l h2 y, List.mem_cons]
      constructor
      · rintro (rfl | rfl | h)
        · exact .inr ⟨.inl rfl, by omega⟩
        · exact .inl rfl
        · exact .inr ⟨.inr h.1, h.2⟩
      · rintro (rfl | ⟨rfl | h, h'⟩)
        · exact .inr (.inl rfl)
        · exact .inl rfl
        · exact .inr (.inr ⟨h, h'⟩)
theorem place_up (x : α) : ∀ (l : List α), Up k l → Up k (placeR k x l)
  | [], _ => by simp [placeR, Up]
  | z :: l, h => by
    obtain ⟨h1, h2⟩ := List.pairwise_cons.1 h
    unfold placeR
    by_cases hx : k x ≤ k z
    · rw [if_pos hx]
      refine List.pairwise_cons.2 ⟨fun y hy => ?_, (List.Pairwise.filter _ h)⟩
      obtain ⟨hy, hne⟩ := List.mem_filter.1 hy
      have hne := of_decide_eq_true hne
      rcases List.mem_cons.1 hy with rfl | hy
      · omega
      · have := h1 y hy; omega
    · rw [if_neg hx]
      refine List.pairwise_cons.2 ⟨fun y hy => ?_, place_up x l h2⟩
      rcases (place_mem k x l h2 y).1 hy with rfl | ⟨hy, _⟩
      · omega
      · exact h1 y hy
def keptG (xs : List α) : List α := xs.foldl (fun l x => placeG k x l) []
theorem kept_snoc (xs : List α) (x : α) : keptG k (xs ++ [x]) = placeR k x (keptG k xs) := by simp [keptG, place_eq]
theorem kept_up (xs : List α) : Up k (keptG k xs) := by
  induction xs using snocRec with
  | nil => simp [keptG, Up]
  | snoc xs x ih => rw [kept_snoc]; exact place_up k x _ ih
def lookG (xs : List α) (i : Int) : Option α := xs.foldl (fun acc x => if k x = i then some x else acc) none
theorem look_snoc (xs : List α) (x : α) (i : Int) : lookG k (xs ++ [x]) i = if k x = i then some x else lookG k xs i := by simp [lookG]
theorem look_nil (i : Int) : lookG k ([] : List α) i = none := rfl
theorem kept_mem (xs : List α) : ∀ y, y ∈ keptG k xs ↔ lookG k xs (k y) = some y := by
  induction xs using snocRec with
  | nil => intro y; simp [keptG, lookG]
  | snoc xs x ih =>
    intro y
    rw [kept_snoc, place_mem k x _ (kept_up k xs), look_snoc, ih y]
    by_cases h : k x = k y
    · simp [h, eq_comm]
    · rw [if_neg h]
      constructor
      · rintro (rfl | ⟨h1, _⟩)
        · exact absurd rfl h
        · exact h1
      · intro h1; exact .inr ⟨h1, fun e => h e.symm⟩
theorem look_key (xs : List α) : ∀ i x, lookG k xs i = some x → k x = i ∧ x ∈ xs := by
  induction xs using snocRec with
  | nil => intro i x h; simp [lookG] at h
  | snoc xs y ih =>
    intro i x h
    rw [look_snoc] at h
    by_cases hy : k y = i
    · rw [if_pos hy] at h; cases h; exact ⟨hy, by simp⟩
    · rw [if_neg hy] at h; have := ih i x h; exact ⟨this.1, by simp [this.2]⟩
theorem up_same : ∀ (a b : List α), Up k a → Up k b → (∀ y, y ∈ a ↔ y ∈ b) → a = b
  | [], [], _, _, _ => rfl
  | [], y :: b, _, _, h => by have := (h y).2 (by simp); simp at this
  | y :: a, [], _, _, h => by have := (h y).1 (by simp); simp at this
  | x :: a, y :: b, ha, hb, h => by
    obtain ⟨a1, a2⟩ := List.pairwise_cons.1 ha
    obtain ⟨b1, b2⟩ := List.pairwise_cons.1 hb
    have hxy : x = y := by
      have h1 := (h x).1 (by simp)
      have h2 := (h y).2 (by simp)
      rcases List.mem_cons.1 h1 with e | h1
      · exact e
      · rcases List.mem_cons.1 h2 with e | h2
        · exact e.symm
        · have := b1 x h1; have := a1 y h2; omega
    subst hxy
    congr 1
    refine up_same a b a2 b2 fun z => ⟨fun hz => ?_, fun hz => ?_⟩
    · rcases List.mem_cons.1 ((h z).1 (by simp [hz])) with e | h'
      · subst e; have := a1 z hz; omega
      · exact h'
    · rcases List.mem_cons.1 ((h z).2 (by simp [hz])) with e | h'
      · subst e; have := b1 z hz; omega
      · exact h'
theorem place_map {k' : β → Int} (g : α → β) (hg : ∀ y, k' (g y) = k y) (x : α) : ∀ l : List α, (placeR k x l).map g = placeR k' (g x) (l.map g)
  | [] => rfl
  | y :: l => by
    unfold placeR
    rw [List.map_cons]
    by_cases h : k x ≤ k y
    · rw [if_pos h]
      simp only [hg, h, if_true, List.map_cons]
      congr 1
      rw [show g y :: List.map g l = (y :: l).map g from rfl, List.filter_map]
      congr 1
      apply List.filter_congr
      intro z _; simp [hg]
    · rw [if_neg h]
      simp only [hg, h, if_false, List.map_cons]
      rw [place_map g hg x l]
theorem kept_map {k' : β → Int} (g : α → β) (hg : ∀ y, k' (g y) = k y) (xs : List α) : (keptG k xs).map g = keptG k' (xs.map g) := by
  induction xs using snocRec with
  | nil => rfl
  | snoc xs x ih => rw [kept_snoc, place_map k g hg, ih, List.map_append, List.map_singleton, kept_snoc]
theorem kept_nil_iff (xs : List α) : keptG k xs = [] ↔ xs = [] := by
  constructor
  · intro h
    rcases List.eq_nil_or_concat xs with e | ⟨l, x, e⟩
    · exact e
    · subst e
      have : x ∈ keptG k (l ++ [x]) := by rw [kept_mem, look_snoc]; simp
      rw [List.concat_eq_append] at h
      rw [h] at this; simp at this
  · rintro rfl; rfl
end

end Go.Proofs.YtogoibigabpkhaaGreat
/- A disk of the program's, and one of the document's, in memory. -/
namespace Go.Proofs.YtogoibigabpkhaaGreat
set_option linter.unusedVariables false
open Go.RowKit
open Go.Lib (hid)

theorem SlB.len {w : World} {p : Sv} {l : List UInt8} (h : SlB w p.v l) : p.n = l.length := by
  obtain ⟨_, _, cap, a, hv', _⟩ := id h
  injection hv'
theorem SlB.any {w : World} {v : Value} {l : List UInt8} (h : SlB w v l) : ∃ a cap, v = .slice a l.length cap ∧ l.length ≤ cap ∧ (a = none → cap = 0) := by
  obtain ⟨b, o, cap, a, rfl, hn, hcap, ha, hc, hb⟩ := h
  exact ⟨a, cap, rfl, hcap, hn⟩
/-- Block p holds a disk: its room, its bytes, how many of them are synced. -/
abbrev Tri (T : TypeId) (w : World) (p : Nat) (room : Int) (v : Value) (s : Int) : Prop := w.heap[p]? = some (.cells #[.int .i64 room, v, .int .i64 s] T (0, 0))
theorem Tri.cells {T : TypeId} {w : World} {p : Nat} {room s : Int} {v : Value} (h : Tri T w p room v s) : p < w.heap.size ∧ w.cell? ⟨p, 0, none⟩ = some (.int .i64 room) ∧ w.cell? ⟨p, 1, none⟩ = some v ∧ w.cell? ⟨p, 2, none⟩ = some (.int .i64 s) ∧ w.frozen? ⟨p, 0, none⟩ = false ∧ w.frozen? ⟨p, 1, none⟩ = false ∧ w.frozen? ⟨p, 2, none⟩ = false :=
  ⟨(Array.getElem?_eq_some_iff.1 h).1, cellAt' h 0, cellAt' h 1, cellAt' h 2, frozenAt h 0, frozenAt h 1, frozenAt h 2⟩
theorem Tri.set1 {T : TypeId} {w : World} {p : Nat} {room s : Int} {v u : Value} (h : Tri T w p room v s) : Tri T (w.setCell ⟨p, 1, none⟩ u) p room u s := setAt h
theorem Tri.set2 {T : TypeId} {w : World} {p : Nat} {room s u : Int} {v : Value} (h : Tri T w p room v s) : Tri T (w.setCell ⟨p, 2, none⟩ (.int .i64 u)) p room v u := setAt h
theorem obOn {B : Nat} {w w' : World} {p : Nat} {o : Obj} (h : w.heap[p]? = some o) (hb : Below B w w') (hp : p < B) : w'.heap[p]? = some o := (hb.block p hp).trans h
theorem obKept {w w' : World} {q : Nat} {o : Obj} {row : Option Nat} (h : w.heap[q]? = some o) (hg : w.grownBy w' row) (hne : row ≠ some q) : w'.heap[q]? = some o := by
  rw [hg.block q (Array.getElem?_eq_some_iff.1 h).1 (fun e => hne e.symm)]; exact h
/-- A disk's block is no block of bytes. -/
theorem Tri.apart {T : TypeId} {w : World} {p B : Nat} {room s : Int} {v u : Value} {l : List UInt8} (h : Tri T w p room v s) (hT : T ≠ 5) (ho : OwnB w B u l) : u.ownBlock ≠ some p := by
  rcases ho.2 with ⟨rfl, _⟩ | ⟨g, cap, cur, rfl, _, hg, _⟩
  · simp [Value.ownBlock]
  · intro e
    simp [Value.ownBlock] at e
    subst e
    rw [h] at hg
    injection hg with h1
    injection h1 with h2 h3
    exact hT h3
/-- The first bytes of one's own. -/
theorem OwnB.head {w : World} {B : Nat} {g : Option Addr} {n cap k : Nat} {l : List UInt8} (h : OwnB w B (.slice g n cap) l) (hk : k ≤ l.length) : OwnB w B (.slice g k cap) (l.take k) := by
  have hlt : (l.take k).length = k := by rw [List.length_take]; omega
  have ho : octs (l.take k) = (octs l).take k := by simp [octs, List.map_take]
  rcases h.2 with ⟨e, h0⟩ | ⟨g', cap', cur, e, hb, hg, hn, hm, hs, ht⟩
  · injection e with e1 e2 e3
    subst e1 e3
    obtain rfl := List.length_eq_zero_iff.1 h0
    simp at hk
    subst hk
    exact OwnB.nil _ _
  · injection e with e1 e2 e3
    subst e1 e2 e3
    unfold OwnB
    rw [hlt, ho]
    refine ⟨by rw [List.length_take, octs_len]; omega, .inr ⟨g', cap, cur, rfl, hb, hg, by omega, hm, hs, ?_⟩⟩
    rw [← ht, List.take_take, Nat.mul_one, Nat.mul_one, Nat.min_eq_left hk]
theorem SlB.headA {w : World} {g : Option Addr} {n cap k : Nat} {l : List UInt8} (h : SlB w (.slice g n cap) l) (hk : k ≤ l.length) : SlB w (.slice g k cap) (l.take k) := by
  have hlt : (l.take k).length = k := by rw [List.length_take]; omega
  obtain ⟨b, o, cap', a, e, hn, hcap, ha, hc, hb⟩ := h
  injection e with e1 e2 e3
  subst e1 e3
  refine ⟨b, o, cap, g, by rw [hlt], hn, by omega, fun h0 => ha (by omega), fun j x hx => ?_, fun h0 => hb (by omega)⟩
  have hj := (List.getElem?_eq_some_iff.1 hx).1
  rw [List.getElem?_take, if_pos (by omega)] at hx
  exact hc j x hx
theorem SlB.kept {w w' : World} {v : Value} {l : List UInt8} {row : Option Nat} (h : SlB w v l) (hg : w.grownBy w' row) (hne : ∀ k, v.ownBlock = some k → row ≠ some k) : SlB w' v l :=
  h.same hg.size fun k hk hlt => hg.block k hlt fun e => hne k hk e.symm
theorem row_of {w : World} {B g n cap : Nat} {T : TypeId} {xs : List Value} (h : w.ownsRow B T 1 (.slice (some ⟨g, 0, none⟩) n cap) n xs) : ∃ cur : List Value, w.heap[g]? = some (.cells cur.toArray T (0, 0)) ∧ cur.length = cap ∧ B ≤ g ∧ cap ≤ maxLen := by
  rcases h.2 with ⟨e, h0⟩ | ⟨g', cap', cur, e, hb, hg, hn, hm, hs, ht⟩
  · cases e
  · injection e with e1 e2 e3
    injection e1 with e4
    injection e4 with e5
    subst e5 e3
    exact ⟨cur.toList, by simpa using hg, by simpa using hs, hb, hm⟩
theorem own_row {w : World} {B g n : Nat} {l : List UInt8} (h : w.heap[g]? = some (.cells (octs l).toArray 5 (0, 0))) (hB : B ≤ g) (hn : l.length = n) (hm : n ≤ maxLen) : OwnB w B (.slice (some ⟨g, 0, none⟩) n n) l := by
  subst hn
  exact ⟨by rw [octs_len, Nat.mul_one], .inr ⟨g, _, _, rfl, hB, h, Nat.le_refl _, hm, by simp [octs_len], by simp [octs_len, List.take_of_length_le]⟩⟩
theorem splice_all {cur cs : List Value} (h : cur.length = cs.length) : splice cur 0 cs = cs := by
  unfold splice
  rw [Nat.zero_add, ← h, List.drop_length, List.take_zero, List.nil_append, List.append_nil]
theorem belowNone {w w' : World} (hg : w.grownBy w' none) : Below w.heap.size w w' := ⟨hg.os, hg.tape, hg.output, hg.size, fun k hk => hg.block k hk (by simp)⟩
theorem grownOff {w W : World} {row : Option Nat} (h : w.drew.grownBy W row) : w.grownBy W row := ⟨h.os, h.tape, h.output, h.size, h.block⟩
theorem belowDrewN {B : Nat} {w W : World} (h : Below B w W) (n : Nat) : Below B w (W.drewN n) := ⟨h.1, h.2, h.3, h.4, h.5⟩
end Go.Proofs.YtogoibigabpkhaaGreat
