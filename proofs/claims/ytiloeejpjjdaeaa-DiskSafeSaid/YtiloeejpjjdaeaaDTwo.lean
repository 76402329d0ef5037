/- A disk of the program's beside one of the document's: what both hold. -/
import Derived.Test.YtiloeejpjjdaeaaDCut
namespace Go.Proofs.Ytiloeejpjjdaeaa
set_option linter.unusedVariables false
open Go.RowKit
open Go.Lib (hid)

/-- What stands below B and from N on has not turned. -/
structure Chg (B N : Nat) (w w' : World) : Prop where
  os : w'.os = w.os
  tape : w'.tape = w.tape
  output : w'.output = w.output
  size : w.heap.size ≤ w'.heap.size
  block : ∀ k, k < w.heap.size → k < B ∨ N ≤ k → w'.heap[k]? = w.heap[k]?
theorem Chg.refl (B N : Nat) (w : World) : Chg B N w w := ⟨rfl, rfl, rfl, Nat.le_refl _, fun _ _ _ => rfl⟩
theorem Chg.trans {B N : Nat} {a b c : World} (h : Chg B N a b) (k : Chg B N b c) : Chg B N a c :=
  ⟨k.os.trans h.os, k.tape.trans h.tape, k.output.trans h.output, Nat.le_trans h.size k.size, fun i hi hn => (k.block i (Nat.lt_of_lt_of_le hi h.size) hn).trans (h.block i hi hn)⟩
theorem Chg.ofBelow {B N : Nat} {w w' : World} (h : Below w.heap.size w w') : Chg B N w w' := ⟨h.os, h.tape, h.output, h.size, fun k hk _ => h.block k hk⟩
theorem Chg.ofGrown {B N : Nat} {w w' : World} {row : Option Nat} (h : w.grownBy w' row) (hr : ∀ k, row = some k → B ≤ k ∧ k < N) : Chg B N w w' :=
  ⟨h.os, h.tape, h.output, h.size, fun k hk hn => h.block k hk (fun e => by have := hr k e.symm; omega)⟩
theorem Chg.below {B N : Nat} {w0 w w' : World} (h : Chg B N w w') (hb : Below B w0 w) (hB : B ≤ w.heap.size) : Below B w0 w' :=
  hb.trans ⟨h.os, h.tape, h.output, h.size, fun k hk => h.block k (by omega) (.inl hk)⟩
theorem Chg.ob {B N : Nat} {w w' : World} (h : Chg B N w w') {k : Nat} {o : Obj} (hk : w.heap[k]? = some o) (hN : N ≤ k) : w'.heap[k]? = some o := (h.block k (Array.getElem?_eq_some_iff.1 hk).1 (.inr hN)).trans hk

/-- Both disks hold the same: room, bytes, how many are synced. -/
def Two (w : World) (B N p q : Nat) (room : Int) (l : List UInt8) (s : Nat) : Prop :=
  ∃ v u, Dk w p room v s ∧ Rk w q room u s ∧ OwnB w B v l ∧ SlB w u l ∧ (∀ k, u.ownBlock = some k → v.ownBlock ≠ some k ∧ k ≠ q ∧ k ≠ p) ∧ (∀ k, v.ownBlock = some k → k < N) ∧ B ≤ p ∧ p < N ∧ B ≤ q ∧ q < N ∧ N ≤ w.heap.size ∧ s ≤ l.length
theorem Two.on {w w' : World} {B N p q s : Nat} {room : Int} {l : List UInt8} (h : Two w B N p q room l s) (hb : Below w.heap.size w w') : Two w' B N p q room l s := by
  obtain ⟨v, u, hD, hR, hO, hS, hu, hv, h1, h2, h3, h4, h5, h6⟩ := h
  exact ⟨v, u, obOn hD hb (by omega), obOn hR hb (by omega), own_below hO hb (fun k hk => (hO.lt k hk).2), hS.on hb, hu, hv, h1, h2, h3, h4, Nat.le_trans h5 hb.size, h6⟩
theorem tri_ne {T U : TypeId} {w : World} {p q : Nat} {room room' s s' : Int} {v u : Value} (h : Tri T w p room v s) (h' : Tri U w q room' u s') (hTU : T ≠ U) : p ≠ q := by
  intro e
  subst e
  have h0 := h.symm.trans h'
  injection h0 with h1
  injection h1 with h2 h3
  exact hTU h3
theorem dk_ne {w : World} {p q : Nat} {room room' s s' : Int} {v u : Value} (h : Dk w p room v s) (h' : Rk w q room' u s') : p ≠ q := tri_ne h h' (by decide)
/-- Neither took it. -/
theorem two_same {w w2 w3 : World} {B N p q s : Nat} {room : Int} {l : List UInt8} (h : Two w B N p q room l s) (h2 : Below w.heap.size w w2) (h3 : Below w2.heap.size w2 w3) : Two w3 B w3.heap.size p q room l s ∧ Chg B N w w3 := by
  have hb := h2.trans (h3.mono h2.size)
  obtain ⟨v, u, hD, hR, hO, hS, hu, hv, a1, a2, a3, a4, a5, a6⟩ := h.on hb
  have := hb.size
  exact ⟨⟨v, u, hD, hR, hO, hS, hu, fun k hk => (hO.lt k hk).2, a1, by omega, a3, by omega, Nat.le_refl _, a6⟩, Chg.ofBelow hb⟩
/-- The program's has more, and then the document's. -/
theorem two_more {w w1 w2 w3 : World} {B N p q s s1 s2 : Nat} {room : Int} {l b : List UInt8} {v u v2 u3 : Value} (hD : Dk w p room v s) (hR : Rk w q room u s1) (hO : OwnB w B v l) (h1 : B ≤ p) (h2 : p < N) (h3 : B ≤ q) (h4 : q < N) (hv : ∀ k, v.ownBlock = some k → k < N) (hBw : B ≤ w.heap.size)
    (g1 : w.grownBy w1 v.ownBlock) (g2 : w1.grownBy w2 (some p)) (hD2 : Dk w2 p room v2 s2) (hO2 : OwnB w2 B v2 b) (hR3 : Rk w3 q room u3 s2) (hS3 : OwnB w3 w2.heap.size u3 b) (g3 : w2.grownBy w3 (some q)) (hs : s2 ≤ b.length) : Two w3 B w3.heap.size p q room b s2 ∧ Chg B N w w3 := by
  have hne := dk_ne hD hR
  have hp3 : w3.heap[p]? = w2.heap[p]? := g3.block p (Array.getElem?_eq_some_iff.1 hD2).1 (fun e => hne (by cases e; rfl))
  have hD3 : Dk w3 p room v2 s2 := hp3.trans hD2
  have hq2 : v2.ownBlock ≠ some q := fun e => by
    rcases hO2.2 with ⟨rfl, _⟩ | ⟨g, cap, cur, rfl, _, hg, _⟩
    · simp [Value.ownBlock] at e
    · simp [Value.ownBlock] at e
      subst e
      have e1 : w.heap[g]? = some _ := hR
      have e2 : w1.heap[g]? = w.heap[g]? := g1.block g (Array.getElem?_eq_some_iff.1 hR).1 (fun e => hR.apart (by decide) hO e.symm)
      have e3 : w2.heap[g]? = w1.heap[g]? := g2.block g (by have := (Array.getElem?_eq_some_iff.1 hR).1; have := g1.size; omega) (fun e => hne (by cases e; rfl))
      rw [e3, e2, e1] at hg
      injection hg with h1
      injection h1 with h2 h3
      exact absurd h3 (by decide)
  have hO3 : OwnB w3 B v2 b := hO2.kept g3 (.inr hq2)
  have z1 := g1.size
  have z2 := g2.size
  have z3 := g3.size
  refine ⟨⟨v2, u3, hD3, hR3, hO3, hS3.slb, fun k hk => ?_, fun k hk => (hO3.lt k hk).2, h1, (Array.getElem?_eq_some_iff.1 hD3).1, h3, (Array.getElem?_eq_some_iff.1 hR3).1, Nat.le_refl _, hs⟩, ?_⟩
  · have hk2 := (hS3.lt k hk).1
    refine ⟨fun e => ?_, ?_, ?_⟩
    · have := (hO2.lt k e).2; omega
    · have := (Array.getElem?_eq_some_iff.1 hR).1; omega
    · have := (Array.getElem?_eq_some_iff.1 hD).1; omega
  · exact ((Chg.ofGrown g1 (fun k hk => ⟨(hO.lt k hk).1, hv k hk⟩)).trans (Chg.ofGrown g2 (fun k hk => by cases hk; exact ⟨h1, h2⟩))).trans (Chg.ofGrown g3 (fun k hk => by cases hk; exact ⟨h3, h4⟩))
/-- Both have fewer, or the same. -/
theorem two_fewer {w w2 w3 : World} {B N p q s s2 : Nat} {room : Int} {l b : List UInt8} {v u v2 u3 : Value} (hD : Dk w p room v s) (hR : Rk w q room u s) (hO : OwnB w B v l) (h1 : B ≤ p) (h2 : p < N) (h3 : B ≤ q) (h4 : q < N) (hu : ∀ k, u.ownBlock = some k → v.ownBlock ≠ some k ∧ k ≠ q ∧ k ≠ p) (hv : ∀ k, v.ownBlock = some k → k < N)
    (hD2 : Dk w2 p room v2 s2) (hO2 : OwnB w2 B v2 b) (hvv : v2.ownBlock = none ∨ v2.ownBlock = v.ownBlock) (g2 : w.grownBy w2 (some p)) (hR3 : Rk w3 q room u3 s2) (hS3 : SlB w3 u3 b) (huu : u3.ownBlock = u.ownBlock) (g3 : w2.grownBy w3 (some q)) (hs : s2 ≤ b.length) : Two w3 B w3.heap.size p q room b s2 ∧ Chg B N w w3 := by
  have hne := dk_ne hD hR
  have hp3 : w3.heap[p]? = w2.heap[p]? := g3.block p (Array.getElem?_eq_some_iff.1 hD2).1 (fun e => hne (by cases e; rfl))
  have hD3 : Dk w3 p room v2 s2 := hp3.trans hD2
  have hq2 : v2.ownBlock ≠ some q := fun e => by
    rcases hvv with e2 | e2
    · rw [e2] at e; cases e
    · rw [e2] at e; exact hR.apart (by decide) hO e
  have hO3 : OwnB w3 B v2 b := hO2.kept g3 (.inr hq2)
  refine ⟨⟨v2, u3, hD3, hR3, hO3, hS3, fun k hk => ?_, fun k hk => (hO3.lt k hk).2, h1, (Array.getElem?_eq_some_iff.1 hD3).1, h3, (Array.getElem?_eq_some_iff.1 hR3).1, Nat.le_refl _, hs⟩, ?_⟩
  · rw [huu] at hk
    refine ⟨fun e => ?_, (hu k hk).2⟩
    rcases hvv with e2 | e2
    · rw [e2] at e; cases e
    · rw [e2] at e; exact (hu k hk).1 e
  · exact (Chg.ofGrown g2 (fun k hk => by cases hk; exact ⟨h1, h2⟩)).trans (Chg.ofGrown g3 (fun k hk => by cases hk; exact ⟨h3, h4⟩))
end Go.Proofs.Ytiloeejpjjdaeaa
