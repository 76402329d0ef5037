import Derived.Test.YtmggggijamligaaG18
import Derived.Lib.SmallJoins
import Derived.Carry
import Derived.Handed
import Derived.OpenShut
import Derived.Deep.Slices
import Derived.Deep.Fields
namespace Go.Proofs.Ytmggggijamligaa
set_option linter.unusedVariables false
open Go.Joins Go.ChangeShapes Go.WideShapes Go.ChangeAt Go.RowKit Go.Deep
theorem cellsU8 : Try.prog.cellsOf 5 = 1 := by kernel_rfl
theorem cellsU16 : Try.prog.cellsOf 50 = 1 := by kernel_rfl
theorem cellsIt : Try.prog.cellsOf 52 = 2 := by kernel_rfl
set_option maxRecDepth 100000 in
theorem item_in {H : Type} {enc : TypeId × Value → H} {W : World} {base : Nat} {spare : Nat → Bool} {held : Bool} {fuel : Nat} {cs : List Value} {x : DataW H × List MemPlace} (h : DataW.trod enc Try.prog W base spare held fuel 52 cs = some x) : ∃ a : It, cs = a.list ∧ a.ok := by
  obtain ⟨hl, n, hf⟩ := struct_in Try.underlying52 h
  rw [cellsIt] at hl
  match cs, hl with
  | [c0, c1], hl =>
    obtain ⟨y0, h0⟩ := hf 0 _ rfl
    obtain ⟨y1, h1⟩ := hf 1 _ rfl
    simp only [List.getElem_toArray, List.getElem_cons_succ, List.getElem_cons_zero, cellsU8, cellsU16, List.drop_succ_cons, List.drop_zero, List.take_succ_cons, List.take_zero] at h0 h1
    obtain ⟨k, e0, _, hw⟩ := DataW.trod_int Try.underlying5 h0
    obtain ⟨t, e1, _, hw1⟩ := DataW.trod_int Try.underlying50 h1
    have hk : 0 ≤ k ∧ k ≤ 255 := by
      simp only [Lit.wf, Bool.and_eq_true, decide_eq_true_eq] at hw
      exact ⟨hw.1, hw.2⟩
    have ht : 0 ≤ t ∧ t ≤ 65535 := by
      simp only [Lit.wf, Bool.and_eq_true, decide_eq_true_eq] at hw1
      exact ⟨hw1.1, hw1.2⟩
    simp at e0 e1
    subst e0 e1
    refine ⟨⟨k.toNat, t.toNat⟩, ?_, ?_, ?_⟩
    · unfold It.list
      rw [show ((k.toNat : Nat) : Int) = k by omega, show ((t.toNat : Nat) : Int) = t by omega]
    · show k.toNat < 256; omega
    · show t.toNat < 65536; omega
set_option maxRecDepth 100000 in
theorem open_items {H : Type} {enc : TypeId × Value → H} {W : World} {base : Nat} {spare : Nat → Bool} {held : Bool} {b0 : Nat} {v : Value} {d : DataW H} {p : List MemPlace} (hv : Value.okWide Try.prog W .any b0 47 v) (h : DataW.Trod enc Try.prog W base spare held 47 v d p) :
    ∃ xs : List It, SlIt W v xs ∧ (∀ x ∈ xs, x.ok) ∧ xs.length ≤ 9223372036854775807 := by
  obtain ⟨a0, n0, c0, rfl⟩ := okWide_slice Try.underlying47 hv
  obtain ⟨fuel, hf⟩ := h
  rcases open_slice Try.underlying47 hf with h0 | ⟨a, len, cap, m, n, D, Pl, hcs, _, hl, hm, hmm, _, hi⟩
  · have h0 := h0.1
    simp [Value.cells] at h0
    obtain ⟨rfl, rfl, rfl⟩ := h0
    exact ⟨[], SlG.nil _ _ _, fun x hx => by simp at hx, by simp⟩
  · simp [Value.cells] at hcs
    obtain ⟨rfl, rfl, rfl⟩ := hcs
    obtain ⟨xs, hal, hp⟩ := list_of' (n := n0) (P := fun i (x : It) => (∀ (f : Nat) u, x.list[f]? = some u → W.cell? (a.add (i * 2 + f)) = some u) ∧ x.ok) fun i hlt => by
      obtain ⟨cs', hc, ht'⟩ := hi i (by rw [hmm]; split <;> omega)
      rw [cellsIt] at hc
      obtain ⟨x, rfl, hx⟩ := item_in ht'
      obtain ⟨_, _, hat⟩ := World.cells?_some hc
      refine ⟨x, fun f u hu => ?_, hx⟩
      have hlt := (List.getElem?_eq_some_iff.1 hu).1
      have q := hat f (by rw [It.len] at hlt; exact hlt)
      rw [Go.Deep.add_add] at q
      rw [q]; exact hu
    have hfirst : 0 < xs.length → a.spot = none ∧ a.block < W.heap.size := fun h0 => by
      have hc : xs[0]? = some xs[0] := List.getElem?_eq_getElem h0
      have := (hp 0 _ hc).1 0 _ rfl
      exact ⟨by simpa [Addr.add] using World.cell?_spot this, by simpa [Addr.add] using World.block_lt_of_cell? W _ this⟩
    obtain ⟨b, o, spot⟩ := a
    refine ⟨xs, ⟨b, o, c0, some ⟨b, o, spot⟩, by rw [hal], fun h0 => ?_, fun j e hj f u hu => ?_, fun h0 => ?_⟩, fun x hx => ?_, ?_⟩
    · rw [show spot = none from (hfirst (by simpa using h0)).1]
    · have h0 : 0 < xs.length := by have := (List.getElem?_eq_some_iff.1 hj).1; omega
      have := (hp j e hj).1 f u hu
      rw [show spot = none from (hfirst h0).1, add_plain] at this
      rw [← Nat.add_assoc] at this
      exact this
    · exact (hfirst (by simpa using h0)).2
    · obtain ⟨j, hj⟩ := List.getElem?_of_mem hx
      exact (hp j x hj).2
    · rw [hal]; exact Nat.le_trans (Nat.le_trans hl hm) (by decide)
end Go.Proofs.Ytmggggijamligaa
