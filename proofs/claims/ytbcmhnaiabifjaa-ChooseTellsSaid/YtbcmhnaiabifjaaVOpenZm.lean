import Derived.Test.YtbcmhnaiabifjaaG05
import Derived.Test.YtbcmhnaiabifjaaG36
import Derived.Lib.SmallJoins
import Derived.Carry
import Derived.Handed
import Derived.OpenShut
import Derived.Deep.Slices
import Derived.Deep.Fields
namespace Go.Proofs.Ytbcmhnaiabifjaa
set_option linter.unusedVariables false
open Go.Joins Go.ChangeShapes Go.WideShapes Go.ChangeAt Go.RowKit Go.Deep
theorem cellsMs : Try.prog.cellsOf 49 = 20 := by kernel_rfl
theorem cellsSo : Try.prog.cellsOf 43 = 1 := by kernel_rfl
section
variable {H : Type} {enc : TypeId × Value → H} {W : World} {base : Nat} {spare : Nat → Bool} {held : Bool} {fuel : Nat}
set_option maxRecDepth 100000 in
theorem cmd_wf {cs : List Value} {x : DataW H × List MemPlace} {z : Int} (h : DataW.trod enc Try.prog W base spare held fuel 47 cs = some x) (hz : cs[0]? = some (.int .i64 z)) : (Lit.int .i64 z).wf = true := by
  obtain ⟨hl, n, hf⟩ := struct_in Try.underlying47 h
  rw [cellsC] at hl
  obtain ⟨y1, h1⟩ := hf 0 _ rfl
  simp only [List.getElem_toArray, List.getElem_cons_zero, cellsI, List.drop_zero] at h1
  obtain ⟨z', e, _, hw⟩ := DataW.trod_int Try.underlying3 h1
  match cs, hl, hz with
  | c0 :: r, _, hz =>
    have e1 : c0 = .int .i64 z' := by simpa using e
    have e2 : c0 = .int .i64 z := by simpa using hz
    rw [e1] at e2
    cases e2
    exact hw
def Ms.inW (w : World) (m : Ms) : Prop := m.at w ∧ (Lit.int .i64 m.m.c.i).wf = true
set_option maxRecDepth 100000 in
theorem msg_in {cs : List Value} {x : DataW H × List MemPlace} (h : DataW.trod enc Try.prog W base spare held fuel 49 cs = some x) : ∃ m : Ms, cs = m.m.list ∧ m.inW W := by
  obtain ⟨hl, n, hf⟩ := struct_in Try.underlying49 h
  rw [cellsMs] at hl
  match cs, hl with
  | [c0, c1, c2, c3, c4, c5, c6, c7, c8, c9, c10, c11, c12, c13, c14, c15, c16, c17, c18, c19], _ =>
    obtain ⟨y0, h0⟩ := hf 0 _ rfl
    obtain ⟨y1, h1⟩ := hf 1 _ rfl
    obtain ⟨y2, h2⟩ := hf 2 _ rfl
    obtain ⟨y3, h3⟩ := hf 3 _ rfl
    obtain ⟨y4, h4⟩ := hf 4 _ rfl
    obtain ⟨y5, h5⟩ := hf 5 _ rfl
    obtain ⟨y6, h6⟩ := hf 6 _ rfl
    obtain ⟨y7, h7⟩ := hf 7 _ rfl
    obtain ⟨y8, h8⟩ := hf 8 _ rfl
    obtain ⟨y9, h9⟩ := hf 9 _ rfl
    obtain ⟨y10, h10⟩ := hf 10 _ rfl
    simp only [List.getElem_toArray, List.getElem_cons_succ, List.getElem_cons_zero, cellsI, cellsC, cellsV, cellsB, cellsSo, List.drop_succ_cons, List.drop_zero, List.take_succ_cons, List.take_zero] at h0 h1 h2 h3 h4 h5 h6 h7 h8 h9 h10
    obtain ⟨z0, rfl⟩ := int_in Try.underlying43 h0
    obtain ⟨z1, rfl⟩ := int_in Try.underlying3 h1
    obtain ⟨z2, rfl⟩ := int_in Try.underlying3 h2
    obtain ⟨z3, rfl⟩ := int_in Try.underlying3 h3
    have hwf := fun z hz => cmd_wf (z := z) h4 hz
    obtain ⟨c, hc⟩ := cmd_in h4
    obtain ⟨t5, p5, l5, e5, s5⟩ := value_in h5
    obtain ⟨b6, e6, _⟩ := DataW.trod_bool Try.underlying4 h6
    obtain ⟨z7, rfl⟩ := int_in Try.underlying3 h7
    obtain ⟨z8, rfl⟩ := int_in Try.underlying3 h8
    obtain ⟨t9, p9, l9, e9, s9⟩ := value_in h9
    obtain ⟨t10, p10, l10, e10, s10⟩ := value_in h10
    simp only [C7.cells, List.cons.injEq, and_true] at hc e5 e6 e9 e10
    obtain ⟨rfl, rfl, rfl, rfl, rfl, rfl, rfl⟩ := hc
    obtain ⟨rfl, rfl⟩ := e5
    subst e6
    obtain ⟨rfl, rfl⟩ := e9
    obtain ⟨rfl, rfl⟩ := e10
    exact ⟨⟨⟨z0, z1, z2, z3, c, t5, p5, b6, z7, z8, t9, p9, t10, p10⟩, l5, l9, l10⟩, rfl, ⟨s5, s9, s10⟩, hwf c.i rfl⟩
end
set_option maxRecDepth 100000 in
theorem open_msgs {H : Type} {enc : TypeId × Value → H} {W : World} {base : Nat} {spare : Nat → Bool} {held : Bool} {b0 : Nat} {v : Value} {d : DataW H} {p : List MemPlace} (hv : Value.okWide Try.prog W .any b0 22 v) (h : DataW.Trod enc Try.prog W base spare held 22 v d p) :
    ∃ xs : List Ms, SlM W v (mgs xs) ∧ (∀ a ∈ xs, a.inW W) ∧ xs.length ≤ 9223372036854775807 := by
  obtain ⟨a0, n0, c0, rfl⟩ := okWide_slice Try.underlying22 hv
  obtain ⟨fuel, hf⟩ := h
  rcases open_slice Try.underlying22 hf with h0 | ⟨a, len, cap, m, n, D, Pl, hcs, _, hl, hm, hmm, _, hi⟩
  · have h0 := h0.1
    simp [Value.cells] at h0
    obtain ⟨rfl, rfl, rfl⟩ := h0
    exact ⟨[], SlG.nil _ _ _, fun x hx => by simp at hx, by simp⟩
  · simp [Value.cells] at hcs
    obtain ⟨rfl, rfl, rfl⟩ := hcs
    obtain ⟨xs, hal, hp⟩ := list_of' (n := n0) (P := fun i (x : Ms) => (∀ (f : Nat) u, x.m.list[f]? = some u → W.cell? (a.add (i * 20 + f)) = some u) ∧ x.inW W) fun i hlt => by
      obtain ⟨cs', hc, ht'⟩ := hi i (by rw [hmm]; split <;> omega)
      rw [cellsMs] at hc
      obtain ⟨x, rfl, hx⟩ := msg_in ht'
      obtain ⟨_, _, hat⟩ := World.cells?_some hc
      refine ⟨x, fun f u hu => ?_, hx⟩
      have hlt := (List.getElem?_eq_some_iff.1 hu).1
      have q := hat f (by rw [Mg.len] at hlt; exact hlt)
      rw [Go.Deep.add_add] at q
      rw [q]; exact hu
    have hlm : (mgs xs).length = xs.length := by unfold mgs; rw [List.length_map]
    have hfirst : 0 < xs.length → a.spot = none ∧ a.block < W.heap.size := fun h0 => by
      have hc : xs[0]? = some xs[0] := List.getElem?_eq_getElem h0
      have := (hp 0 _ hc).1 0 _ rfl
      exact ⟨by simpa [Addr.add] using World.cell?_spot this, by simpa [Addr.add] using World.block_lt_of_cell? W _ this⟩
    obtain ⟨b, o, spot⟩ := a
    refine ⟨xs, ⟨b, o, c0, some ⟨b, o, spot⟩, by rw [hlm, hal], fun h0 => ?_, fun j e hj f u hu => ?_, fun h0 => ?_⟩, fun x hx => ?_, ?_⟩
    · rw [show spot = none from (hfirst (by rw [hlm] at h0; exact h0)).1]
    · have h0 : 0 < xs.length := by have := (List.getElem?_eq_some_iff.1 hj).1; omega
      obtain ⟨x, hx, rfl⟩ : ∃ x, xs[j]? = some x ∧ x.m = e := by
        unfold mgs at hj; rw [List.getElem?_map] at hj
        rcases hx : xs[j]? with _ | x
        · rw [hx] at hj; cases hj
        · rw [hx] at hj; exact ⟨x, rfl, Option.some.inj hj⟩
      have := (hp j x hx).1 f u hu
      rw [show spot = none from (hfirst h0).1, add_plain] at this
      rw [← Nat.add_assoc] at this
      exact this
    · exact (hfirst (by rw [hlm] at h0; exact h0)).2
    · obtain ⟨j, hj⟩ := List.getElem?_of_mem hx
      exact (hp j x hj).2
    · rw [hal]; exact Nat.le_trans (Nat.le_trans hl hm) (by decide)
end Go.Proofs.Ytbcmhnaiabifjaa
