import Derived.Test.YtlehcaacfgocaaaGreatG02
import Derived.WalkMore
import Derived.Lib.SliceRun
import Derived.ScopeJumps
import Derived.Test.YtlehcaacfgocaaaGreatRows
import Derived.WalkKit
import Derived.LoopTactic
import Derived.ProofKit
import Derived.Lib.Hide
import Derived.Laws.AppendOwn
import Derived.Laws.AppendOwnNone
import Derived.Laws.OwnMore
import Derived.OwnWalk
import Derived.Laws.BytesArg
import Derived.Laws.IdiomStrings
import Derived.Laws.CopyOwn
import Derived.Deep.QuietTactic
import Derived.BigQuiet
import Derived.BigRegion
import Derived.RegionTactic
import Derived.Maps.Own
import Derived.Maps.Views
import Derived.Maps.OwnSet
import Derived.Maps.RangeWalk
import Derived.StillTailTactics
import Derived.Outline
namespace Go.Proofs.YtlehcaacfgocaaaGreat
set_option linter.unusedVariables false
open Go.RowKit
open Go.Lib (hid)
theorem SlB.src {w : World} {v : Value} {l : List UInt8} (h : SlB w v l) :
    (v = .slice none 0 0 ∧ l = []) ∨ ∃ ad cap, v = .slice (Option.some ad) l.length cap ∧ (∀ (j : Nat) u, (octs l)[j]? = Option.some u → w.cell? (ad.add j) = Option.some u) ∧ (0 < l.length → ad.block < w.heap.size) := by
  obtain ⟨b, o, cap, a, rfl, hn, hcap, ha, hc, hl⟩ := h
  rcases a with _ | ad
  · have h0 : l.length = 0 := by have := hn rfl; omega
    exact .inl ⟨by rw [hn rfl, h0], List.length_eq_zero_iff.1 h0⟩
  · refine .inr ⟨ad, cap, rfl, fun j u hu => ?_, fun h0 => by obtain rfl := Option.some.inj (ha h0); exact hl h0⟩
    simp only [octs, List.getElem?_map, Option.map_eq_some_iff] at hu
    obtain ⟨x, hx, rfl⟩ := hu
    have h0 : 0 < l.length := by have := (List.getElem?_eq_some_iff.1 hx).1; omega
    obtain rfl := Option.some.inj (ha h0)
    rw [show (⟨b, o, none⟩ : Addr).add j = ⟨b, o + j, none⟩ from by unfold Addr.add; split <;> simp_all]
    exact hc j x hx
theorem OwnB.made (w : World) : OwnB (w.alloc (.cells #[] 5)) w.heap.size (.slice (Option.some ⟨w.heap.size, 0, none⟩) 0 0) [] :=
  World.ownsRow_made w #[] 0 (Nat.le_refl _) (by unfold maxLen; omega) rfl
abbrev ptr (p : Nat) : Value := .pointer (some ⟨p, 0, none⟩)
end Go.Proofs.YtlehcaacfgocaaaGreat
namespace Go.Proofs.YtlehcaacfgocaaaGreat
set_option linter.unusedVariables false
open Go.RowKit
open Go.Lib (hid)
section
variable {α : Type}
def flatG (cl : α → List Value) (xs : List α) : List Value := xs.flatMap cl
theorem flatG_cons (cl : α → List Value) (x : α) (xs : List α) : flatG cl (x :: xs) = cl x ++ flatG cl xs := by simp [flatG]
theorem flatG_append (cl : α → List Value) (a b : List α) : flatG cl (a ++ b) = flatG cl a ++ flatG cl b := by simp [flatG]
theorem flatG_one (cl : α → List Value) (x : α) : flatG cl [x] = cl x := by simp [flatG]
theorem flatG_len {cl : α → List Value} {K : Nat} (hk : ∀ x, (cl x).length = K) : ∀ xs : List α, (flatG cl xs).length = xs.length * K
  | [] => by simp [flatG]
  | x :: xs => by rw [flatG_cons, List.length_append, hk, flatG_len hk xs, List.length_cons, Nat.add_mul]; omega
theorem flatG_at {cl : α → List Value} {K : Nat} (hk : ∀ x, (cl x).length = K) : ∀ (xs : List α) (j : Nat) (x : α), xs[j]? = some x → ∀ (f : Nat) v, (cl x)[f]? = some v → (flatG cl xs)[j * K + f]? = some v
  | [], j, x, h, _, _, _ => by simp at h
  | d :: xs, 0, x, h, f, v, hv => by
    simp at h; subst h
    have hf := (List.getElem?_eq_some_iff.1 hv).1
    rw [flatG_cons, Nat.zero_mul, Nat.zero_add, List.getElem?_append_left hf]; exact hv
  | d :: xs, j + 1, x, h, f, v, hv => by
    have := flatG_at hk xs j x (by simpa using h) f v hv
    have h7 : (cl d).length = K := hk d
    rw [flatG_cons, List.getElem?_append_right (by rw [h7, Nat.add_mul]; omega), h7, show (j + 1) * K + f - K = j * K + f by rw [Nat.add_mul]; omega]
    exact this
theorem flatG_all {cl : α → List Value} (h1 : ∀ x, ∀ u ∈ cl x, u.oneCell' = true) (xs : List α) : ∀ u ∈ flatG cl xs, u.oneCell' = true := fun u hu => by
  obtain ⟨x, _, hx⟩ := List.mem_flatMap.1 hu
  exact h1 x u hx
def RowsG (cl : α → List Value) (K : Nat) (w : World) (b o : Nat) (xs : List α) : Prop := ∀ (j : Nat) x, xs[j]? = some x → w.rangeAt b (o + j * K) (cl x)
def SlG (cl : α → List Value) (K : Nat) (w : World) (v : Value) (xs : List α) : Prop :=
  ∃ (b o cap : Nat) (a : Option Addr), v = .slice a xs.length cap ∧ (0 < xs.length → a = some ⟨b, o, none⟩) ∧ RowsG cl K w b o xs ∧ (0 < xs.length → b < w.heap.size)
theorem RowsG.on {cl : α → List Value} {K : Nat} {w w' : World} {b o B : Nat} {xs : List α} (h : RowsG cl K w b o xs) (hb : Below B w w') (hB : 0 < xs.length → b < B) : RowsG cl K w' b o xs := fun j x hx i v hv => by
  have h0 : 0 < xs.length := by have := (List.getElem?_eq_some_iff.1 hx).1; omega
  exact (hb.cell (p := ⟨b, _, none⟩) (hB h0)).trans (h j x hx i v hv)
theorem SlG.on {cl : α → List Value} {K : Nat} {w w' : World} {v : Value} {xs : List α} (h : SlG cl K w v xs) (hb : Below w.heap.size w w') : SlG cl K w' v xs := by
  obtain ⟨b, o, cap, a, rfl, ha, hr, hl⟩ := h
  exact ⟨b, o, cap, a, rfl, ha, hr.on hb hl, fun h0 => Nat.lt_of_lt_of_le (hl h0) hb.size⟩
theorem SlG.nil (cl : α → List Value) (K : Nat) (w : World) : SlG cl K w (.slice none 0 0) [] := ⟨0, 0, 0, none, rfl, fun h => absurd h (by simp), fun j x h => by simp at h, fun h => absurd h (by simp)⟩
abbrev OwnG (cl : α → List Value) (K : Nat) (T : TypeId) (w : World) (B : Nat) (v : Value) (xs : List α) : Prop := w.ownsRow B T K v xs.length (flatG cl xs)
theorem OwnG.nil (cl : α → List Value) (K : Nat) (T : TypeId) (w : World) (B : Nat) : OwnG cl K T w B (.slice none 0 0) [] := World.ownsRow_nil _ _ _ _
theorem addr_add (g j : Nat) : (⟨g, 0, none⟩ : Addr).add j = ⟨g, j, none⟩ := by unfold Addr.add; split <;> simp_all
theorem addr_add' (g o j : Nat) : (⟨g, o, none⟩ : Addr).add j = ⟨g, o + j, none⟩ := by unfold Addr.add; split <;> simp_all
theorem OwnG.slG {cl : α → List Value} {K : Nat} {T : TypeId} {w : World} {B : Nat} {v : Value} {xs : List α} (hk : ∀ x, (cl x).length = K) (h : OwnG cl K T w B v xs) : SlG cl K w v xs := by
  have hl := h.lt
  have hcl := fun g (hg : v.ownBlock = some g) => h.cells hg
  rcases h.2 with ⟨rfl, h0⟩ | ⟨g, cap, cur, rfl, hb, hg, hn, hm, hs, ht⟩
  · obtain rfl : xs = [] := List.length_eq_zero_iff.1 h0
    exact SlG.nil _ _ _
  · refine ⟨g, 0, cap, _, rfl, fun _ => rfl, fun j x hx f v hv => ?_, fun _ => (hl g rfl).2⟩
    have := hcl g rfl _ _ (flatG_at hk xs j x hx f v hv)
    rw [addr_add] at this
    rw [show 0 + j * K + f = j * K + f by omega]; exact this
theorem OwnG.asSlice {cl : α → List Value} {K : Nat} {T : TypeId} {w : World} {B : Nat} {v : Value} {xs : List α} (h : OwnG cl K T w B v xs) : ∃ (g : Option Addr) (cap n : Nat), v = .slice g n cap ∧ n = xs.length := by
  rcases h.2 with ⟨rfl, h0⟩ | ⟨g, cap, cur, rfl, _⟩
  · exact ⟨none, 0, 0, rfl, h0.symm⟩
  · exact ⟨_, cap, _, rfl, rfl⟩
theorem OwnG.on {cl : α → List Value} {K : Nat} {T : TypeId} {w w' : World} {B : Nat} {v : Value} {xs : List α} (h : OwnG cl K T w B v xs) (hb : Below w.heap.size w w') : OwnG cl K T w' B v xs := own_below h hb fun k hk => (h.lt k hk).2
theorem OwnG.mono {cl : α → List Value} {K : Nat} {T : TypeId} {w : World} {B B' : Nat} {v : Value} {xs : List α} (h : OwnG cl K T w B v xs) (hB : B' ≤ B) : OwnG cl K T w B' v xs := own_monoB h hB
theorem OwnG.grows {cl : α → List Value} {K : Nat} {T : TypeId} {w W0 w1 : World} {B n : Nat} {v v' : Value} {xs : List α} {x : α} (hB : Below B w W0) (hsz : B ≤ W0.heap.size) (hlt : ∀ k, v.ownBlock = some k → B ≤ k)
    (hown' : w1.ownsRow B T K v' n (flatG cl xs ++ cl x)) (hn : n = xs.length + 1) (hg : W0.grownBy w1 v.ownBlock) : OwnG cl K T w1 B v' (xs ++ [x]) ∧ Below B w w1 :=
  ⟨by unfold OwnG; rw [flatG_append, flatG_one, List.length_append, List.length_singleton, ← hn]; exact hown', hB.grown hg hsz hlt⟩
end
abbrev SlE (w : World) (v : Value) (es : List Ev) : Prop := SlG Ev.list 19 w v es
abbrev OwnR (w : World) (B : Nat) (v : Value) (es : List Ev) : Prop := OwnG Ev.list 19 78 w B v es
structure En where
  e : Ev
  f : List C7
  a : List C7
  v : List C7
def En.at (w : World) (x : En) : Prop := Sl w x.e.fp.v x.f ∧ Sl w x.e.xp.v x.a ∧ Sl w x.e.vp.v x.v
theorem En.at.on {w w' : World} {x : En} (h : x.at w) (hb : Below w.heap.size w w') : x.at w' := ⟨h.1.on hb, h.2.1.on hb, h.2.2.on hb⟩
abbrev En.right (x : En) : Bool := rightE x.e x.f x.a x.v
abbrev En.id (x : En) : Int := x.e.c.i
def En.short (n : Nat) (x : En) : Prop := x.f.length ≤ n ∧ x.a.length ≤ n ∧ x.v.length ≤ n
def AllAt (w : World) (xs : List En) : Prop := ∀ x ∈ xs, x.at w
theorem AllAt.on {w w' : World} {xs : List En} (h : AllAt w xs) (hb : Below w.heap.size w w') : AllAt w' xs := fun x hx => (h x hx).on hb
end Go.Proofs.YtlehcaacfgocaaaGreat
namespace Go.Proofs.YtlehcaacfgocaaaGreat
set_option linter.unusedVariables false
open Go.RowKit
open Go.Lib (hid)
set_option linter.unusedVariables false
open Go.RowKit
open Go.Lib (hid)
set_option linter.unusedVariables false
open Go.RowKit
open Go.Lib (hid)
set_option linter.unusedVariables false
open Go.RowKit
open Go.Lib (hid)
set_option linter.unusedVariables false
open Go.RowKit
open Go.Lib (hid)
set_option linter.unusedVariables false
open Go.RowKit
open Go.Lib (hid)
set_option linter.unusedVariables false
open Go.RowKit
open Go.Lib (hid)
set_option linter.unusedVariables false
open Go.RowKit
open Go.Lib (hid)
end Go.Proofs.YtlehcaacfgocaaaGreat
namespace Go.Proofs.YtlehcaacfgocaaaGreat
set_option linter.unusedVariables false
theorem snocRec {α : Type} {motive : List α → Prop} (nil : motive []) (snoc : ∀ xs x, motive xs → motive (xs ++ [x])) (xs : List α) : motive xs := by
  have : ∀ n (xs : List α), xs.length = n → motive xs := by
    intro n
    induction n with
    | zero => intro xs h; rw [List.length_eq_zero_iff.1 h]; exact nil
    | succ n ih =>
      intro xs h
      rcases List.eq_nil_or_concat xs with e | ⟨l, x, e⟩
      · subst e; exact nil
      · subst e; rw [List.concat_eq_append] at h ⊢; exact snoc l x (ih l (by simp at h; exact h))
  exact this _ xs rfl
section
variable {α β : Type} (k : α → Int)
def putStep (x : α) (s : List α × Bool) (y : α) : List α × Bool :=
  ((if !s.2 && decide (k x ≤ k y) then s.1 ++ [x] else s.1) ++ (if k y ≠ k x then [y] else []), s.2 || decide (k x ≤ k y))
def putEnd (x : α) (s : List α × Bool) : List α := if s.2 = true then s.1 else s.1 ++ [x]
def placeG (x : α) (l : List α) : List α := putEnd x (l.foldl (putStep k x) ([], false))
def placeR (x : α) : List α → List α
  | [] => [x]
  | y :: l => if k x ≤ k y then x :: (y :: l).filter (fun z => decide (k z ≠ k x)) else y :: placeR x l
theorem put_done (x : α) : ∀ (l : List α) (out : List α), l.foldl (putStep k x) (out, true) = (out ++ l.filter (fun z => decide (k z ≠ k x)), true)
  | [], out => by simp
  | y :: l, out => by
    rw [List.foldl_cons]
    have : putStep k x (out, true) y = (out ++ (if k y ≠ k x then [y] else []), true) := by simp [putStep]
    rw [this, put_done x l]
    by_cases h : k y = k x <;> simp [h]
theorem put_not (x : α) : ∀ (l : List α) (out : List α), putEnd x (l.foldl (putStep k x) (out, false)) = out ++ placeR k x l
  | [], out => by simp [putEnd, placeR]
  | y :: l, out => by
    rw [List.foldl_cons]
    by_cases h : k x ≤ k y
    · have e : putStep k x (out, false) y = (out ++ [x] ++ (if k y ≠ k x then [y] else []), true) := by simp [putStep, h]
      rw [e, put_done]
      simp only [putEnd, placeR, h, if_true]
      by_cases h2 : k y = k x <;> simp [h2]
    · have hne : k y ≠ k x := by omega
      have e : putStep k x (out, false) y = (out ++ [y], false) := by simp [putStep, h, hne]
      rw [e, put_not x l]
      simp [placeR, h]
theorem place_eq (x : α) (l : List α) : placeG k x l = placeR k x l := by
  unfold placeG; rw [put_not]; simp
def Up (l : List α) : Prop := l.Pairwise fun a b => k a < k b
theorem place_mem (x : α) : ∀ (l : List α), Up k l → ∀ y, y ∈ placeR k x l ↔ y = x ∨ (y ∈ l ∧ k y ≠ k x)
  | [], _, y => by simp [placeR]
  | z :: l, h, y => by
    obtain ⟨h1, h2⟩ := List.pairwise_cons.1 h
    unfold placeR
    by_cases hx : k x ≤ k z
    · rw [if_pos hx, List.mem_cons, List.mem_filter]; simp
    · rw [if_neg hx, List.mem_cons, place_mem x l h2 y, List.mem_cons]
      constructor
      · rintro (rfl | rfl | h)
        · exact .inr ⟨.inl rfl, by omega⟩
        · exact .inl rfl
        · exact .inr ⟨.inr h.1, h.2⟩
      · rintro (rfl | ⟨rfl | h, h'⟩)
        · exact .inr (.inl rfl)
        · exact .inl rfl
        · exact .inr (.inr ⟨h, h'⟩)
theorem place_up (x : α) : ∀ (l : List α), Up k l → Up k (placeR k x l)
  | [], _ => by simp [placeR, Up]
  | z :: l, h => by
    obtain ⟨h1, h2⟩ := List.pairwise_cons.1 h
    unfold placeR
    by_cases hx : k x ≤ k z
    · rw [if_pos hx]
      refine List.pairwise_cons.2 ⟨fun y hy => ?_, (List.Pairwise.filter _ h)⟩
      obtain ⟨hy, hne⟩ := List.mem_filter.1 hy
      have hne := of_decide_eq_true hne
      rcases List.mem_cons.1 hy with rfl | hy
      · omega
      · have := h1 y hy; omega
    · rw [if_neg hx]
      refine List.pairwise_cons.2 ⟨fun y hy => ?_, place_up x l h2⟩
      rcases (place_mem k x l h2 y).1 hy with rfl | ⟨hy, _⟩
      · omega
      · exact h1 y hy
def keptG (xs : List α) : List α := xs.foldl (fun l x => placeG k x l) []
theorem kept_snoc (xs : List α) (x : α) : keptG k (xs ++ [x]) = placeR k x (keptG k xs) := by simp [keptG, place_eq]
theorem kept_up (xs : List α) : Up k (keptG k xs) := by
  induction xs using snocRec with
  | nil => simp [keptG, Up]
  | snoc xs x ih => rw [kept_snoc]; exact place_up k x _ ih
def lookG (xs : List α) (i : Int) : Option α := xs.foldl (fun acc x => if k x = i then some x else acc) none
theorem look_snoc (xs : List α) (x : α) (i : Int) : lookG k (xs ++ [x]) i = if k x = i then some x else lookG k xs i := by simp [lookG]
theorem kept_mem (xs : List α) : ∀ y, y ∈ keptG k xs ↔ lookG k xs (k y) = some y := by
  induction xs using snocRec with
  | nil => intro y; simp [keptG, lookG]
  | snoc xs x ih =>
    intro y
    rw [kept_snoc, place_mem k x _ (kept_up k xs), look_snoc, ih y]
    by_cases h : k x = k y
    · simp [h, eq_comm]
    · rw [if_neg h]
      constructor
      · rintro (rfl | ⟨h1, _⟩)
        · exact absurd rfl h
        · exact h1
      · intro h1; exact .inr ⟨h1, fun e => h e.symm⟩
theorem look_key (xs : List α) : ∀ i x, lookG k xs i = some x → k x = i ∧ x ∈ xs := by
  induction xs using snocRec with
  | nil => intro i x h; simp [lookG] at h
  | snoc xs y ih =>
    intro i x h
    rw [look_snoc] at h
    by_cases hy : k y = i
    · rw [if_pos hy] at h; cases h; exact ⟨hy, by simp⟩
    · rw [if_neg hy] at h; have := ih i x h; exact ⟨this.1, by simp [this.2]⟩
theorem up_same : ∀ (a b : List α), Up k a → Up k b → (∀ y, y ∈ a ↔ y ∈ b) → a = b
  | [], [], _, _, _ => rfl
  | [], y :: b, _, _, h => by have := (h y).2 (by simp); simp at this
  | y :: a, [], _, _, h => by have := (h y).1 (by simp); simp at this
  | x :: a, y :: b, ha, hb, h => by
    obtain ⟨a1, a2⟩ := List.pairwise_cons.1 ha
    obtain ⟨b1, b2⟩ := List.pairwise_cons.1 hb
    have hxy : x = y := by
      have h1 := (h x).1 (by simp)
      have h2 := (h y).2 (by simp)
      rcases List.mem_cons.1 h1 with e | h1
      · exact e
      · rcases List.mem_cons.1 h2 with e | h2
        · exact e.symm
        · have := b1 x h1; have := a1 y h2; omega
    subst hxy
    congr 1
    refine up_same a b a2 b2 fun z => ⟨fun hz => ?_, fun hz => ?_⟩
    · rcases List.mem_cons.1 ((h z).1 (by simp [hz])) with e | h'
      · subst e; have := a1 z hz; omega
      · exact h'
    · rcases List.mem_cons.1 ((h z).2 (by simp [hz])) with e | h'
      · subst e; have := b1 z hz; omega
      · exact h'
end
end Go.Proofs.YtlehcaacfgocaaaGreat
namespace Go.Proofs.YtlehcaacfgocaaaGreat
set_option linter.unusedVariables false
open Go.RowKit
open Go.Lib (hid)
theorem SlB.len {w : World} {p : Sv} {l : List UInt8} (h : SlB w p.v l) : p.n = l.length := by
  obtain ⟨_, _, cap, a, hv', _⟩ := id h
  injection hv'
theorem SlB.any {w : World} {v : Value} {l : List UInt8} (h : SlB w v l) : ∃ a cap, v = .slice a l.length cap ∧ l.length ≤ cap ∧ (a = none → cap = 0) := by
  obtain ⟨b, o, cap, a, rfl, hn, hcap, ha, hc, hb⟩ := h
  exact ⟨a, cap, rfl, hcap, hn⟩
abbrev Tri (T : TypeId) (w : World) (p : Nat) (room : Int) (v : Value) (s : Int) : Prop := w.heap[p]? = some (.cells #[.int .i64 room, v, .int .i64 s] T (0, 0))
theorem Tri.cells {T : TypeId} {w : World} {p : Nat} {room s : Int} {v : Value} (h : Tri T w p room v s) : p < w.heap.size ∧ w.cell? ⟨p, 0, none⟩ = some (.int .i64 room) ∧ w.cell? ⟨p, 1, none⟩ = some v ∧ w.cell? ⟨p, 2, none⟩ = some (.int .i64 s) ∧ w.frozen? ⟨p, 0, none⟩ = false ∧ w.frozen? ⟨p, 1, none⟩ = false ∧ w.frozen? ⟨p, 2, none⟩ = false :=
  ⟨(Array.getElem?_eq_some_iff.1 h).1, cellAt' h 0, cellAt' h 1, cellAt' h 2, frozenAt h 0, frozenAt h 1, frozenAt h 2⟩
theorem Tri.apart {T : TypeId} {w : World} {p B : Nat} {room s : Int} {v u : Value} {l : List UInt8} (h : Tri T w p room v s) (hT : T ≠ 5) (ho : OwnB w B u l) : u.ownBlock ≠ some p := by
  rcases ho.2 with ⟨rfl, _⟩ | ⟨g, cap, cur, rfl, _, hg, _⟩
  · simp [Value.ownBlock]
  · intro e
    simp [Value.ownBlock] at e
    subst e
    rw [h] at hg
    injection hg with h1
    injection h1 with h2 h3
    exact hT h3
theorem SlB.kept {w w' : World} {v : Value} {l : List UInt8} {row : Option Nat} (h : SlB w v l) (hg : w.grownBy w' row) (hne : ∀ k, v.ownBlock = some k → row ≠ some k) : SlB w' v l :=
  h.same hg.size fun k hk hlt => hg.block k hlt fun e => hne k hk e.symm
theorem belowDrewN {B : Nat} {w W : World} (h : Below B w W) (n : Nat) : Below B w (W.drewN n) := ⟨h.1, h.2, h.3, h.4, h.5⟩
end Go.Proofs.YtlehcaacfgocaaaGreat
namespace Go.Proofs.YtlehcaacfgocaaaGreat
set_option linter.unusedVariables false
open Go.RowKit
open Go.Lib (hid)
structure Tch (S : Nat → Prop) (w w' : World) : Prop where
  os : w'.os = w.os
  tape : w'.tape = w.tape
  output : w'.output = w.output
  size : w.heap.size ≤ w'.heap.size
  block : ∀ k, k < w.heap.size → ¬ S k → w'.heap[k]? = w.heap[k]?
theorem Tch.refl (S : Nat → Prop) (w : World) : Tch S w w := ⟨rfl, rfl, rfl, Nat.le_refl _, fun _ _ _ => rfl⟩
theorem Tch.trans {S : Nat → Prop} {a b c : World} (h : Tch S a b) (k : Tch S b c) : Tch S a c :=
  ⟨k.os.trans h.os, k.tape.trans h.tape, k.output.trans h.output, Nat.le_trans h.size k.size, fun i hi hn => (k.block i (Nat.lt_of_lt_of_le hi h.size) hn).trans (h.block i hi hn)⟩
theorem Tch.mono {S S' : Nat → Prop} {a b : World} (h : Tch S a b) (hS : ∀ k, S k → S' k) : Tch S' a b := ⟨h.os, h.tape, h.output, h.size, fun i hi hn => h.block i hi fun hs => hn (hS i hs)⟩
theorem Tch.ofBelow {S : Nat → Prop} {w w' : World} (h : Below w.heap.size w w') : Tch S w w' := ⟨h.1, h.2, h.3, h.4, fun k hk _ => h.5 k hk⟩
theorem Tch.ofGrown {S : Nat → Prop} {w w' : World} {row : Option Nat} (h : w.grownBy w' row) (hr : ∀ k, row = some k → S k) : Tch S w w' :=
  ⟨h.os, h.tape, h.output, h.size, fun k hk hn => h.block k hk fun e => hn (hr k e.symm)⟩
theorem Tch.below {S : Nat → Prop} {B : Nat} {w w' : World} (h : Tch S w w') (hS : ∀ k, S k → B ≤ k) (hB : B ≤ w.heap.size) : Below B w w' :=
  ⟨h.os, h.tape, h.output, h.size, fun k hk => h.block k (by omega) fun hs => by have := hS k hs; omega⟩
theorem Tch.ob {S : Nat → Prop} {w w' : World} (h : Tch S w w') {k : Nat} {o : Obj} (hk : w.heap[k]? = some o) (hS : ¬ S k) : w'.heap[k]? = some o := (h.block k (Array.getElem?_eq_some_iff.1 hk).1 hS).trans hk
theorem cell_of_heap {w w' : World} {k i : Nat} (h : w'.heap[k]? = w.heap[k]?) : w'.cell? ⟨k, i, none⟩ = w.cell? ⟨k, i, none⟩ := World.cell?_of_block (a := ⟨k, i, none⟩) h
theorem Sl.tch {S : Nat → Prop} {w w' : World} {v : Value} {cs : List C7} (h : Sl w v cs) (ht : Tch S w w') (hS : ∀ k, S k → ∀ i, 6 ≤ i → w.cell? ⟨k, i, none⟩ = none) : Sl w' v cs := by
  obtain ⟨b, o, cap, a, rfl, hn, ha, hc, hl⟩ := h
  refine ⟨b, o, cap, a, rfl, hn, ha, fun j c hj f u hu => ?_, fun h0 => Nat.lt_of_lt_of_le (hl h0) ht.size⟩
  have h0 : 0 < cs.length := by have := (List.getElem?_eq_some_iff.1 hj).1; omega
  have hb : ¬ S b := fun hs => by
    have h6 := hc j c hj 6 _ rfl
    rw [hS b hs _ (by omega)] at h6
    cases h6
  rw [cell_of_heap (ht.block b (hl h0) hb)]
  exact hc j c hj f u hu
theorem En.at.tch {S : Nat → Prop} {w w' : World} {x : En} (h : x.at w) (ht : Tch S w w') (hS : ∀ k, S k → ∀ i, 6 ≤ i → w.cell? ⟨k, i, none⟩ = none) : x.at w' := ⟨h.1.tch ht hS, h.2.1.tch ht hS, h.2.2.tch ht hS⟩
theorem AllAt.tch {S : Nat → Prop} {w w' : World} {xs : List En} (h : AllAt w xs) (ht : Tch S w w') (hS : ∀ k, S k → ∀ i, 6 ≤ i → w.cell? ⟨k, i, none⟩ = none) : AllAt w' xs := fun x hx => (h x hx).tch ht hS
open Classical in
noncomputable def RE (v : Value) : Option (DataW Value × List MemPlace) := if ∃ e : Ev, v = .agg e.arr then some (.held v, []) else none
theorem RE_mk (e : Ev) : RE (.agg e.arr) = some (.held (.agg e.arr), []) := by unfold RE; rw [if_pos ⟨e, rfl⟩]
theorem RE_inv {v : Value} {y : DataW Value × List MemPlace} (h : RE v = some y) : ∃ e : Ev, v = .agg e.arr ∧ y = (.held (.agg e.arr), []) := by
  unfold RE at h
  split at h
  · rename_i hx; obtain ⟨e, rfl⟩ := hx; cases h; exact ⟨e, rfl, rfl⟩
  · cases h
theorem ev_inj {e e' : Ev} (h : e.arr = e'.arr) : e = e' := by
  have hl : e.list = e'.list := by rw [← Ev.toList e, h, Ev.toList]
  obtain ⟨c, pr, lo, hi, ft, fp, ab, xt, xp, fr, dn, vt, vp⟩ := e
  obtain ⟨c', pr', lo', hi', ft', fp', ab', xt', xp', fr', dn', vt', vp'⟩ := e'
  obtain ⟨a1, a2, a3, a4, a5, a6, a7⟩ := c
  obtain ⟨b1, b2, b3, b4, b5, b6, b7⟩ := c'
  obtain ⟨p1, p2, p3⟩ := fp
  obtain ⟨q1, q2, q3⟩ := fp'
  obtain ⟨r1, r2, r3⟩ := xp
  obtain ⟨s1, s2, s3⟩ := xp'
  obtain ⟨t1, t2, t3⟩ := vp
  obtain ⟨u1, u2, u3⟩ := vp'
  simp [Ev.list] at hl
  simp_all
abbrev key (i : Int) : Lit := .int .i64 i
theorem key_ne {i j : Int} (h : i ≠ j) : key i ≠ key j := fun e => h (by cases e; rfl)
def Says (D : DataW Value) (xs : List En) : Prop := ∀ i, (∀ x, lookG En.id xs i = some x → Maps.has D (key i) = true ∧ ∀ z, D.atKey (key i) z = .held (.agg x.e.arr)) ∧ (lookG En.id xs i = none → Maps.has D (key i) = false)
def Mp (w : World) (b n : Nat) (xs : List En) : Prop := ∃ D : DataW Value, w.ownsMap Tryz.prog 3 RE b n D ∧ Says D xs
theorem own_isMap {w : World} {P : Program} {k : TypeId} {R : Value → Option (DataW Value × List MemPlace)} {b n : Nat} {D : DataW Value} (h : w.ownsMap P k R b n D) : Maps.IsMap D := by
  obtain ⟨es, clock, _, _, _, rfl⟩ := h; exact ⟨_, rfl⟩
theorem Mp.made (w : World) : Mp (w.alloc (.map #[] 0)) w.heap.size 0 [] := ⟨_, World.ownsMap_made w _ _ _, fun i => ⟨fun x h => by simp [lookG] at h, fun _ => rfl⟩⟩
theorem Says.put {D : DataW Value} {xs : List En} (h : Says D xs) (hD : Maps.IsMap D) (x : En) : Says (D.put (key x.id) (.held (.agg x.e.arr))) (xs ++ [x]) := fun i => by
  by_cases hi : x.id = i
  · subst hi
    refine ⟨fun y hy => ?_, fun hy => ?_⟩
    · rw [look_snoc, if_pos rfl] at hy; cases hy
      have hk : WideAt.IsKeyLit (key x.id) := trivial
      exact ⟨Maps.has_put_same hD hk _, fun z => Maps.atKey_put_same hD hk _ z⟩
    · rw [look_snoc, if_pos rfl] at hy; cases hy
  · have hne := key_ne (Ne.symm hi)
    refine ⟨fun y hy => ?_, fun hy => ?_⟩
    · rw [look_snoc, if_neg hi] at hy
      obtain ⟨h1, h2⟩ := (h i).1 y hy
      exact ⟨(Maps.has_put_other hne _).trans h1, fun z => (Maps.atKey_put_other hne _ z).trans (h2 z)⟩
    · rw [look_snoc, if_neg hi] at hy
      exact (Maps.has_put_other hne _).trans ((h i).2 hy)
theorem Mp.lt {w : World} {b n : Nat} {xs : List En} (h : Mp w b n xs) : b < w.heap.size := by obtain ⟨D, h, _⟩ := h; exact h.lt
theorem Mp.keptT {S : Nat → Prop} {w w' : World} {b n : Nat} {xs : List En} (h : Mp w b n xs) (ht : Tch S w w') (hS : ¬ S b) : Mp w' b n xs := by
  obtain ⟨D, ⟨es, clock, hb, hrest⟩, hs⟩ := h
  exact ⟨D, ⟨es, clock, ht.ob hb hS, hrest⟩, hs⟩
theorem Mp.on {w w' : World} {b n : Nat} {xs : List En} (h : Mp w b n xs) (hb : Below w.heap.size w w') : Mp w' b n xs := h.keptT (Tch.ofBelow (S := fun _ => False) hb) (fun h => h)
theorem Mp.nocell {w : World} {b n : Nat} {xs : List En} (h : Mp w b n xs) (i : Nat) : w.cell? ⟨b, i, none⟩ = none := by
  obtain ⟨D, ⟨es, clock, hb, _⟩, _⟩ := h
  simp [World.cell?, hb]
theorem stillC {ops : Array Oper} {rest : List Oper} {o : Oper} {a : Act} {w : World} {Q : Act → Prop} {x : Operand} {q : Nat} {T : TypeId} (e : Ev) (hg : Region.wanted o (yielded ops a.tmps) = true) (ho : o.op = .load 67 x) (hx : a.eval x = .pointer (some ⟨q, 0, none⟩)) (hC : Ob w q T e)
    (h : wpStill Tryz.prog ops w Q rest (a.put o.dst (.agg e.arr))) : wpStill Tryz.prog ops w Q (o :: rest) a := by
  refine wpStill_step fun K hK => ?_
  rw [if_pos hg]
  unfold Oper.still execOp
  simp only [ho, hx, Instr.loadAt, Instr.sureAddr, Sem.run_bind, Sem.run_pure, Result.andThen_ok, run_loadVar_mid w q 0 67 e.list _ hC.range Tryz.underlying67 rfl (infoEc e)]
  exact ⟨rfl, hK _ h⟩
theorem i64_wf {x : Int} (h : -9223372036854775808 ≤ x ∧ x ≤ 9223372036854775807) : (Lit.int .i64 x).wf = true := by
  have e1 : IntKind.i64.min = -9223372036854775808 := by decide
  have e2 : IntKind.i64.max = 9223372036854775807 := by decide
  simp [Lit.wf, e1, e2]; exact h
end Go.Proofs.YtlehcaacfgocaaaGreat
namespace Go.Proofs.YtlehcaacfgocaaaGreat
set_option linter.unusedVariables false
open Go.RowKit
open Go.Lib (hid)
theorem fold_cells : ∀ (l : List Value) (k off : Nat) (A : Array Value), ((l.zipIdx k).foldl (fun acc p => acc.setIfInBounds (off + p.2) p.1) A).size = A.size ∧
    ∀ j, ((l.zipIdx k).foldl (fun acc p => acc.setIfInBounds (off + p.2) p.1) A)[j]? = if off + k ≤ j ∧ j < off + k + l.length ∧ j < A.size then l[j - (off + k)]? else A[j]?
  | [], k, off, A => ⟨rfl, fun j => by
    rw [if_neg (by simp; omega)]; rfl⟩
  | c :: l, k, off, A => by
    rw [List.zipIdx_cons, List.foldl_cons]
    obtain ⟨h1, h2⟩ := fold_cells l (k + 1) off (A.setIfInBounds (off + k) c)
    refine ⟨h1.trans (by simp), fun j => ?_⟩
    rw [h2 j]
    simp only [Array.size_setIfInBounds, Array.getElem?_setIfInBounds, List.length_cons]
    by_cases hj : off + k = j
    · subst hj
      rw [if_neg (fun hh => absurd hh.1 (by omega))]
      by_cases hs : off + k < A.size
      · rw [if_pos rfl, if_pos hs, if_pos ⟨Nat.le_refl _, by omega, hs⟩]; simp
      · rw [if_pos rfl, if_neg hs, if_neg (fun hh => hs hh.2.2), Array.getElem?_eq_none (by omega)]
    · rw [if_neg hj]
      by_cases hin : off + (k + 1) ≤ j ∧ j < off + (k + 1) + l.length ∧ j < A.size
      · rw [if_pos hin, if_pos ⟨by omega, by omega, hin.2.2⟩, show j - (off + k) = (j - (off + (k + 1))) + 1 by omega]; rfl
      · rw [if_neg hin, if_neg (fun hh => hin ⟨by omega, by omega, hh.2.2⟩)]
theorem fill_all (cs A : Array Value) (h : A.size = cs.size) : cs.zipIdx.foldl (fun acc (p : Value × Nat) => acc.setIfInBounds (0 + p.2) p.1) A = cs := by
  rw [← Array.foldl_toList, Array.toList_zipIdx]
  obtain ⟨h1, h2⟩ := fold_cells cs.toList 0 0 A
  apply Array.ext_getElem?
  intro j
  rw [h2 j]
  by_cases hj : j < cs.size
  · rw [if_pos (by simp; omega)]; simp
  · rw [if_neg (by simp; omega), Array.getElem?_eq_none (by omega), Array.getElem?_eq_none (by omega)]
theorem run_bs1 {t T : TypeId} {z : Value} {cs : Array Value} {K : Nat} (ht : Tryz.prog.underlying t = some (.slice T)) (hs : ∀ w, (sizeOf T).run Tryz.prog w = .ok K w) (hz : ∀ w, (zeroValue T).run Tryz.prog w = .ok z w) (hK : cs.size = K) (h0 : K ≠ 0) (h1 : K ≤ 100) (w : World) :
    (Instr.buildSlice t 1 #[(0, .agg cs)]).run Tryz.prog w = .ok (.slice (some ⟨w.heap.size, 0, none⟩) 1 1) (w.alloc (.cells cs T)) := by
  subst hK
  have hf : Instr.fill (fun i => some (i * cs.size, cs.size)) ((Array.range (1 * cs.size)).map (z.cells[· % z.cells.size]!)) [(0, .agg cs)] = some cs := by
    unfold Instr.fill
    simp only [Nat.zero_mul, Value.cells]
    rw [if_neg (by simp)]
    unfold Instr.fill
    rw [fill_all _ _ (by simp)]
  unfold Instr.buildSlice
  simp only [Sem.run_bind, run_underlying ht, Result.andThen_ok, hs w]
  have e24 : (2 : Nat) ^ 24 = 16777216 := by simp
  rw [e24, if_neg (show ¬ (1 * cs.size > 16777216) by omega), if_neg (show ¬ 1 * cs.size = 0 by omega)]
  simp only [Sem.run_bind, hz w, Result.andThen_ok, Sem.run_pure]
  rw [hf]
  simp only [Sem.run_bind, Sem.run_pure]
  rfl
theorem wpList_bs1 {ops : Array Oper} {rest : List Oper} {op : Oper} {a : Act} {w : World} {Q : Exit → Act → World → Prop} {x : Operand} {t T : TypeId} {z : Value} {K : Nat} (cs : Array Value) (hgd : op.guard = none) (ho : op.op = .buildSlice t 1 #[(0, x)]) (hx : a.eval x = .agg cs)
    (ht : Tryz.prog.underlying t = some (.slice T)) (hs : ∀ w, (sizeOf T).run Tryz.prog w = .ok K w) (hz : ∀ w, (zeroValue T).run Tryz.prog w = .ok z w) (hK : cs.size = K) (h0 : K ≠ 0) (h1 : K ≤ 100)
    (h : ∀ W, W.heap[w.heap.size]? = some (.cells cs T (0, 0)) → Below w.heap.size w W → W = w.alloc (.cells cs T) → wpList Tryz.prog ops Q rest (a.put op.dst (.slice (some ⟨w.heap.size, 0, none⟩) 1 1)) W) : wpList Tryz.prog ops Q (op :: rest) a w := by
  refine wpList_plain hgd fun _ hK' => ?_
  unfold Oper.wp execOp
  simp only [ho, List.map_toArray, List.map_cons, List.map_nil, hx, Sem.run_bind, run_bs1 ht hs hz hK h0 h1 w, Result.andThen_ok]
  exact hK' _ _ (h _ (heap_alloc_new w _) ((Below.refl _ w).alloc (Nat.le_refl _) _) rfl)
end Go.Proofs.YtlehcaacfgocaaaGreat
namespace Go.Proofs.YtlehcaacfgocaaaGreat
set_option linter.unusedVariables false
open Go.RowKit
open Go.Lib (hid)
theorem loadEl {T : TypeId} (hu : ∃ d, Tryz.prog.underlying T = some d ∧ d.isRow = true) (hi : (Tryz.prog.info? T).map (·.size) = some 19) {ops : Array Oper} {rest : List Oper} {op : Oper} {a : Act} {w : World} {Q : Exit → Act → World → Prop} {x : Operand} {b o : Nat} (e : Ev) (hgd : op.guard = none) (ho : op.op = .load T x)
    (hx : a.eval x = .pointer (some ⟨b, o, none⟩)) (hc : w.rangeAt b o e.list) (h : wpList Tryz.prog ops Q rest (a.put op.dst (.agg e.arr)) w) : wpList Tryz.prog ops Q (op :: rest) a w := by
  obtain ⟨d, h1, h2⟩ := hu
  exact wpList_load_mid hgd T x ho b o hx e.list d hc h1 h2 (by rw [hi, Ev.len]) h
theorem uE : ∃ d, Tryz.prog.underlying 67 = some d ∧ d.isRow = true := ⟨_, Tryz.underlying67, rfl⟩
theorem iE : (Tryz.prog.info? 67).map (·.size) = some 19 := by kernel_rfl
end Go.Proofs.YtlehcaacfgocaaaGreat
namespace Go.Proofs.YtlehcaacfgocaaaGreat
set_option linter.unusedVariables false
open Go.RowKit
open Go.Lib (hid)
end Go.Proofs.YtlehcaacfgocaaaGreat
namespace Go.Proofs.YtlehcaacfgocaaaGreat
set_option linter.unusedVariables false
open Go.RowKit
open Go.Lib (hid)
abbrev evs (xs : List En) : List Ev := xs.map En.e
theorem at_evs {xs : List En} {k : Nat} {x : En} (h : xs[k]? = some x) : (evs xs)[k]? = some x.e := by rw [List.getElem?_map, h]; rfl
end Go.Proofs.YtlehcaacfgocaaaGreat
