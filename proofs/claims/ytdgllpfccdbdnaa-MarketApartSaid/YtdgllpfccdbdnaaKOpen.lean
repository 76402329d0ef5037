/- From a row's condition to the walk: a slice of commands that came in, as a list of commands that lie in its cells. -/
import Derived.Test.YtdgllpfccdbdnaaKTwo
import Derived.Lib.SmallJoins
import Derived.Carry
import Derived.Handed
import Derived.OpenShut
import Derived.Deep.Slices
import Derived.Deep.Fields
import Derived.ChangeSame
namespace Go.Proofs.Ytdgllpfccdbdnaa
set_option linter.unusedVariables false
open Go.Joins Go.ChangeShapes Go.WideShapes Go.ChangeAt Go.RowKit Go.Deep

theorem list_of {n : Nat} {P : Nat → C7 → Prop} (h : ∀ i, i < n → ∃ c, P i c) : ∃ cs : List C7, cs.length = n ∧ ∀ (j : Nat) c, cs[j]? = some c → P j c := by
  induction n with
  | zero => exact ⟨[], rfl, fun j c hc => by simp at hc⟩
  | succ n ih =>
    obtain ⟨cs, hl, hp⟩ := ih fun i hi => h i (by omega)
    obtain ⟨c, hc⟩ := h n (by omega)
    refine ⟨cs ++ [c], by simp [hl], fun j d hd => ?_⟩
    by_cases hj : j < cs.length
    · rw [List.getElem?_append_left hj] at hd; exact hp j d hd
    · have hlen := (List.getElem?_eq_some_iff.1 hd).1
      simp at hlen
      obtain rfl : j = cs.length := by omega
      simp at hd
      subst hd
      rw [hl]; exact hc

theorem add_plain (b o n : Nat) : (⟨b, o, none⟩ : Addr).add n = ⟨b, o + n, none⟩ := by
  by_cases h : n = 0
  · subst h; simp [Addr.add]
  · simp [Addr.add, h]

/-- A slice of structs of one-cell fields, field by field. -/
theorem open_fields {H : Type} {enc : TypeId × Value → H} {P : Program} {w : World} {base : Nat} {spare : Nat → Bool} {held : Bool} {t e : TypeId} {fs : Array Field} {fuel : Nat} {cs : List Value} {x : DataW H × List MemPlace} (ht : P.underlying t = some (.slice e)) (he : P.underlying e = some (.struct fs))
    (hone : oneCellFields P fs = true) (hC : P.cellsOf e = fs.size) (h : DataW.trod enc P w base spare held fuel t cs = some x) :
    cs = [.slice none 0 0] ∨
    ∃ (a : Addr) (len cap : Nat), cs = [.slice (some a) len cap] ∧ len ≤ maxLen ∧
      ∀ i, i < len → ∃ n : Nat, ∀ (j : Nat) (f : Field), fs[j]? = some f → ∃ (v : Value) (y : DataW H × List MemPlace), w.cell? (a.add (i * fs.size + j)) = some v ∧ DataW.trod enc P w base spare held n f.type [v] = some y := by
  rcases open_slice ht h with h0 | ⟨a, len, cap, m, n, D, Pl, hcs, _, hl, hm, hmm, _, hi⟩
  · exact .inl h0.1
  · refine .inr ⟨a, len, cap, hcs, by omega, fun i him => ?_⟩
    obtain ⟨cs', hc, ht'⟩ := hi i (by rw [hmm]; split <;> omega)
    rw [hC] at hc
    obtain ⟨ys, n', _, _, hlen, hyl, hf⟩ := DataW.trod_struct he ht'
    obtain ⟨_, _, hat⟩ := World.cells?_some hc
    refine ⟨n', fun j f hj => ?_⟩
    obtain ⟨ho, hk⟩ := hone_of hone j f hj
    have hjl : j < fs.size := (Array.getElem?_eq_some_iff.1 hj).1
    have hcell := hat j hjl
    have hv : cs'[j]? = some (cs'[j]'(by omega)) := List.getElem?_eq_getElem (by omega)
    have h1 := hf j f hj
    rw [ho, hk] at h1
    have hone' : (cs'.drop j).take 1 = [cs'[j]'(by omega)] := by
      rw [List.drop_eq_getElem_cons (by omega)]
      rfl
    rw [hone'] at h1
    have hys : ys[j]? = some (ys[j]'(by omega)) := List.getElem?_eq_getElem (by omega)
    refine ⟨_, _, ?_, h1.trans hys⟩
    rw [← Go.Deep.add_add, hcell, hv]

set_option maxRecDepth 100000 in
/-- The commands that came in: a nil slice, or so many commands behind an address. -/
theorem open_cmds {H : Type} {enc : TypeId × Value → H} {W : World} {base : Nat} {spare : Nat → Bool} {held : Bool} {b0 : Nat} {v : Value} {d : DataW H} {p : List MemPlace} (hv : Value.okWide Try.prog W .any b0 22 v) (h : DataW.Trod enc Try.prog W base spare held 22 v d p) :
    ∃ cs : List C7, Sl W v cs ∧ cs.length ≤ 9223372036854775807 := by
  obtain ⟨a0, n0, c0, rfl⟩ := okWide_slice Try.underlying22 hv
  obtain ⟨fuel, hf⟩ := h
  rcases open_fields Try.underlying22 Try.underlying42 (by kernel_rfl) (by kernel_rfl) hf with h0 | ⟨a, len, cap, hcs, hm, hi⟩
  · simp [Value.cells] at h0
    obtain ⟨rfl, rfl, rfl⟩ := h0
    exact ⟨[], ⟨0, 0, 0, none, rfl, fun _ => rfl, fun h => absurd h (by simp), fun j c hc => by simp at hc, fun h => absurd h (by simp)⟩, by simp⟩
  · simp [Value.cells] at hcs
    obtain ⟨rfl, rfl, rfl⟩ := hcs
    obtain ⟨cs, hl, hp⟩ := list_of (n := n0) (P := fun i c => ∀ (f : Nat) u, c.cells[f]? = some u → W.cell? (a.add (i * 7 + f)) = some u) fun i hlt => by
      obtain ⟨n, hf⟩ := hi i hlt
      obtain ⟨v0, y0, g0, t0⟩ := hf 0 _ rfl
      obtain ⟨v1, y1, g1, t1⟩ := hf 1 _ rfl
      obtain ⟨v2, y2, g2, t2⟩ := hf 2 _ rfl
      obtain ⟨v3, y3, g3, t3⟩ := hf 3 _ rfl
      obtain ⟨v4, y4, g4, t4⟩ := hf 4 _ rfl
      obtain ⟨v5, y5, g5, t5⟩ := hf 5 _ rfl
      obtain ⟨v6, y6, g6, t6⟩ := hf 6 _ rfl
      obtain ⟨z0, e0, _, _⟩ := DataW.trod_int Try.underlying3 t0
      obtain ⟨z1, e1, _, _⟩ := DataW.trod_int Try.underlying39 t1
      obtain ⟨z2, e2, _, _⟩ := DataW.trod_int Try.underlying3 t2
      obtain ⟨z3, e3, _, _⟩ := DataW.trod_int Try.underlying3 t3
      obtain ⟨z4, e4, _, _⟩ := DataW.trod_int Try.underlying40 t4
      obtain ⟨z5, e5, _, _⟩ := DataW.trod_int Try.underlying3 t5
      obtain ⟨z6, e6, _, _⟩ := DataW.trod_int Try.underlying3 t6
      simp only [List.cons.injEq, and_true] at e0 e1 e2 e3 e4 e5 e6
      subst e0 e1 e2 e3 e4 e5 e6
      refine ⟨⟨z0, z1, z2, z3, z4, z5, z6⟩, fun f u hu => ?_⟩
      match f, hu with
      | 0, hu => obtain rfl := Option.some.inj hu; exact g0
      | 1, hu => obtain rfl := Option.some.inj hu; exact g1
      | 2, hu => obtain rfl := Option.some.inj hu; exact g2
      | 3, hu => obtain rfl := Option.some.inj hu; exact g3
      | 4, hu => obtain rfl := Option.some.inj hu; exact g4
      | 5, hu => obtain rfl := Option.some.inj hu; exact g5
      | 6, hu => obtain rfl := Option.some.inj hu; exact g6
      | _ + 7, hu => cases hu
    have hfirst : 0 < cs.length → a.spot = none ∧ a.block < W.heap.size := fun h0 => by
      have hc : cs[0]? = some cs[0] := List.getElem?_eq_getElem h0
      have := hp 0 _ hc 0 _ rfl
      exact ⟨by simpa [Addr.add] using World.cell?_spot this, by simpa [Addr.add] using World.block_lt_of_cell? W _ this⟩
    obtain ⟨b, o, spot⟩ := a
    refine ⟨cs, ⟨b, o, c0, some ⟨b, o, spot⟩, by rw [hl], (fun e => by cases e), fun h0 => ?_, fun j c hc f u hu => ?_, fun h0 => (hfirst h0).2⟩, ?_⟩
    · rw [show spot = none from (hfirst h0).1]
    · have h0 : 0 < cs.length := by have := (List.getElem?_eq_some_iff.1 hc).1; omega
      have := hp j c hc f u hu
      rw [show spot = none from (hfirst h0).1] at this
      rw [add_plain] at this
      exact this
    · rw [hl]; exact Nat.le_trans hm (by decide)

theorem own : ownKnob Try.prog.godebug = none := by kernel_rfl
theorem laidOut : laidOutB Try.prog = true := by kernel_rfl
end Go.Proofs.Ytdgllpfccdbdnaa
