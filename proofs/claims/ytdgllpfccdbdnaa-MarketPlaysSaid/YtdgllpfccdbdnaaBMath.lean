/- Books by plain lists: orders, fills, a book's two sides. -/
import Derived.Test.YtdgllpfccdbdnaaBBase
namespace Go.Proofs.Ytdgllpfccdbdnaa
set_option linter.unusedVariables false
open Go.RowKit
open Go.Lib (hid)

/-- An order: its name, its side, its price, what is left of it. -/
structure Od where
  i : Int
  s : Int
  p : Int
  n : Int
  deriving DecidableEq
instance : Inhabited Od := ⟨⟨0, 0, 0, 0⟩⟩
abbrev Od.cells (o : Od) : List Value := [.int .i64 o.i, .int .i64 o.s, .int .i64 o.p, .int .i64 o.n]
abbrev Od.v (o : Od) : Value := .agg #[.int .i64 o.i, .int .i64 o.s, .int .i64 o.p, .int .i64 o.n]
/-- A fill: an order's name, its price, how much. -/
structure Fl where
  i : Int
  p : Int
  q : Int
  deriving DecidableEq
instance : Inhabited Fl := ⟨⟨0, 0, 0⟩⟩
abbrev Fl.cells (o : Fl) : List Value := [.int .i64 o.i, .int .i64 o.p, .int .i64 o.q]
abbrev Fl.v (o : Fl) : Value := .agg #[.int .i64 o.i, .int .i64 o.p, .int .i64 o.q]

/-- Does an order of side s and price p meet one of the other side with price x? -/
def meetsB (s p x : Int) : Bool := if s = 0 then decide (x ≤ p) else decide (p ≤ x)
/-- Is a price of side s better? -/
def betterB (s p x : Int) : Bool := if s = 0 then decide (x < p) else decide (p < x)

/-- What fills an order of side s, price p, of which left is left. -/
def fillG (s p : Int) : Int → List Od → List Fl × Int
  | left, [] => ([], left)
  | left, x :: xs => if left = 0 ∨ meetsB s p x.p = false then ([], left) else
      (⟨x.i, x.p, min left x.n⟩ :: (fillG s p (left - min left x.n) xs).1, (fillG s p (left - min left x.n) xs).2)
/-- What is left of orders that gave the fills. -/
def withoutG : List Od → List Fl → List Od
  | l, [] => l
  | [], _ :: _ => []
  | x :: xs, f :: fs => if x.n - f.q = 0 then withoutG xs fs else withoutG ({ x with n := x.n - f.q } :: xs) fs
termination_by l fs => fs.length
/-- There is always a first one to take from. -/
def fitsW : List Od → List Fl → Prop
  | _, [] => True
  | [], _ :: _ => False
  | x :: xs, f :: fs => if x.n - f.q = 0 then fitsW xs fs else fitsW ({ x with n := x.n - f.q } :: xs) fs
termination_by l fs => fs.length
/-- How much fills took, how much is left of orders. -/
def sumF (fs : List Fl) : Int := (fs.map fun f => f.q).sum
def sumO (l : List Od) : Int := (l.map fun o => o.n).sum
theorem sumF_nil : sumF [] = 0 := rfl
theorem sumO_nil : sumO [] = 0 := rfl
theorem sumF_cons (f : Fl) (fs : List Fl) : sumF (f :: fs) = f.q + sumF fs := by simp [sumF]
theorem sumO_cons (o : Od) (l : List Od) : sumO (o :: l) = o.n + sumO l := by simp [sumO]
theorem sumF_append (a b : List Fl) : sumF (a ++ b) = sumF a + sumF b := by simp [sumF]
theorem sumO_append (a b : List Od) : sumO (a ++ b) = sumO a + sumO b := by simp [sumO]

/-- An order that may be, of a side. -/
def okO (s : Int) (o : Od) : Prop := o.s = s ∧ 1 ≤ o.i ∧ 1 ≤ o.p ∧ o.p ≤ 1048576 ∧ 1 ≤ o.n ∧ o.n ≤ 1048576
def AllO (s : Int) (l : List Od) : Prop := ∀ o ∈ l, okO s o
/-- The first one first: no later one has a better price. -/
def Sorted (s : Int) (l : List Od) : Prop := l.Pairwise fun a b => betterB s b.p a.p = false

theorem fillG_zero (s p : Int) (l : List Od) : fillG s p 0 l = ([], 0) := by cases l <;> simp [fillG]
theorem fillG_left {s p : Int} : ∀ (l : List Od) (left : Int), 0 ≤ left → (∀ x ∈ l, 1 ≤ x.n) → 0 ≤ (fillG s p left l).2 ∧ sumF (fillG s p left l).1 + (fillG s p left l).2 = left ∧ (fillG s p left l).1.length ≤ l.length ∧ ∀ f ∈ (fillG s p left l).1, 1 ≤ f.q
  | [], left, h, _ => by simp [fillG, sumF, h]
  | x :: xs, left, h, hx => by
    have h1 := hx x (by simp)
    unfold fillG
    split
    · simp [sumF, h]
    · rename_i hc
      have hl : left ≠ 0 := fun e => hc (.inl e)
      obtain ⟨a, b, c, d⟩ := fillG_left (s := s) (p := p) xs (left - min left x.n) (by omega) fun y hy => hx y (by simp [hy])
      refine ⟨a, by rw [sumF_cons]; simp only; omega, by simp only [List.length_cons]; omega, fun f hf => ?_⟩
      rcases List.mem_cons.1 hf with rfl | hf
      · simp only; omega
      · exact d f hf
theorem fits_fill {s p : Int} : ∀ (l : List Od) (left : Int), 0 ≤ left → (∀ x ∈ l, 1 ≤ x.n) → fitsW l (fillG s p left l).1
  | [], left, h, _ => by simp [fillG, fitsW]
  | x :: xs, left, h, hx => by
    unfold fillG
    split
    · simp [fitsW]
    · rename_i hc
      simp only [fitsW]
      split
      · exact fits_fill xs _ (by omega) fun y hy => hx y (by simp [hy])
      · have : left - min left x.n = 0 := by omega
        rw [this, fillG_zero]; simp [fitsW]
theorem sum_without : ∀ (l : List Od) (fs : List Fl), fitsW l fs → sumO (withoutG l fs) = sumO l - sumF fs
  | l, [], _ => by simp [withoutG, sumF]
  | [], f :: fs, h => by simp [fitsW] at h
  | x :: xs, f :: fs, h => by
    simp only [fitsW] at h
    simp only [withoutG]
    split
    · rename_i hz
      rw [if_pos hz] at h
      rw [sum_without xs fs h, sumO_cons, sumF_cons]; omega
    · rename_i hz
      rw [if_neg hz] at h
      rw [sum_without _ fs h, sumO_cons, sumO_cons, sumF_cons]; simp only; omega
termination_by l fs => fs.length
end Go.Proofs.Ytdgllpfccdbdnaa
