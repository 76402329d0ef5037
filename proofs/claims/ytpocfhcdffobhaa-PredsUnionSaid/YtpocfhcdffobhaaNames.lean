/- Names, sorted by the library, and searched. -/
import Derived.Test.YtpocfhcdffobhaaOfC
import Derived.Test.YtpocfhcdffobhaaIds
import Derived.Sort.OwnSortedInts
namespace Go.Proofs.Ytpocfhcdffobhaa
set_option linter.unusedVariables false
open Go.RowKit
open Go.Lib (hid)

theorem OwnI.asSlice {w : World} {B : Nat} {v : Value} {l : List Int} (h : OwnI w B v l) : ∃ (g : Option Addr) (cap n : Nat), v = .slice g n cap ∧ n = l.length := by
  rcases h.2 with ⟨rfl, h0⟩ | ⟨g, cap, cur, rfl, _⟩
  · exact ⟨none, 0, 0, rfl, h0.symm⟩
  · exact ⟨_, cap, _, rfl, rfl⟩
/-- Numbers in order. -/
def inOrder (l : List Int) : List Int := l.mergeSort fun x y => decide (x ≤ y)
theorem inOrder_nil : inOrder [] = [] := by simp [inOrder]
theorem inOrder_len (l : List Int) : (inOrder l).length = l.length := by simp [inOrder]
theorem inOrder_has (l : List Int) (x : Int) : (inOrder l).contains x = l.contains x := by
  rw [Bool.eq_iff_iff, List.contains_iff_mem, List.contains_iff_mem]
  unfold inOrder
  exact (List.mergeSort_perm l _).mem_iff
theorem inOrder_rises (l : List Int) : (inOrder l).Pairwise (· ≤ ·) := by
  unfold inOrder
  have := List.pairwise_mergeSort (le := fun x y : Int => decide (x ≤ y)) (fun a b c h1 h2 => by simp at *; omega) (fun a b => by simp; omega) l
  exact this.imp fun h => by simpa using h

theorem cSortNames {w : World} {B : Nat} {v : Value} {l : List Int} (h : OwnI w B v l) (hB : B ≤ w.heap.size) (hl : l.length ≤ 100000) : Calls Try.prog 26 #[v] w fun e w' => e = .returned (.tuple #[]) ∧ SlI w' v (inOrder l) ∧ Below B w w' := by
  rcases h.2 with ⟨rfl, h0⟩ | ⟨g, cap, cur, rfl, hb, hg, hn, hm, hs, ht⟩
  · obtain rfl := List.length_eq_zero_iff.1 h0
    refine (Try.slices_Sort_int_none none 0 w).mono ?_
    rintro e w' ⟨rfl, rfl⟩
    exact ⟨rfl, by rw [inOrder_nil]; exact ⟨0, 0, 0, none, rfl, fun h => absurd h (by simp), fun j x hx => by simp at hx, fun h => absurd h (by simp)⟩, Below.refl _ _⟩
  · have hgl := (Array.getElem?_eq_some_iff.1 hg).1
    refine (Try.slices_Sort_int g 0 cap l w (holds_of_blockI hg (by simpa [nums] using ht)) hgl (by omega)).mono ?_
    rintro e w' ⟨rfl, n, os, rfl⟩
    have hO := ownsRow_sortedI (w := w) (n := n) (os := os) (ss := l) (ts := inOrder l) (inOrder_len l) hb hg hn hm hs
    have hO' : OwnI (Go.Sort.grow (Go.Sort.putRow (Value.int .i64) (Go.Sort.ahead w n) g 0 (inOrder l).toArray) os) B (.slice (some ⟨g, 0, none⟩) l.length cap) (inOrder l) := by
      unfold OwnI; rw [inOrder_len]; exact hO
    exact ⟨rfl, hO'.sl, (Below.refl _ w).grown (grownBy_sortedI _) hB (fun k hk => by cases hk; exact hb)⟩

theorem cSearch {w : World} {v : Value} {l : List Int} (h : SlI w v (inOrder l)) (hl : l.length ≤ 100000) (x : Int) : ∃ cnt : Nat, Calls Try.prog 27 #[v, .int .i64 x] w fun e w' => e = .returned (.tuple #[.int .i64 cnt, .bool (l.contains x)]) ∧ ∃ q, w' = w.drewN q := by
  obtain ⟨b, o, cap, a, rfl, ha, hc, hb⟩ := h
  by_cases h0 : 0 < (inOrder l).length
  · obtain rfl := ha h0
    refine ⟨((inOrder l).take (inOrder l).length).countP (fun y => decide (y < x)), (Try.slices_BinarySearch_int b o (inOrder l).length cap (inOrder l) x w (Nat.le_refl _) (by rw [inOrder_len]; omega) (fun j hj => hc j _ (by rw [List.getD, List.getElem?_eq_getElem hj]; rfl)) (by rw [List.take_length]; exact inOrder_rises l)).mono ?_⟩
    rintro e w' ⟨rfl, hq⟩
    have e : ((inOrder l).take (inOrder l).length).contains x = l.contains x := by rw [List.take_length, inOrder_has]
    exact ⟨by rw [e], hq⟩
  · have hl0 : l = [] := List.length_eq_zero_iff.1 (by rw [inOrder_len] at h0; omega)
    subst hl0
    rw [inOrder_nil]
    refine ⟨0, (Try.slices_BinarySearch_int_empty a cap x w).mono ?_⟩
    rintro e w' ⟨rfl, rfl⟩
    exact ⟨rfl, 0, rfl⟩

end Go.Proofs.Ytpocfhcdffobhaa
