import Derived.Test.YtogoibigabpkhaaGreatG18
import Derived.Test.YtogoibigabpkhaaGreatG46
import Derived.Lib.SmallJoins
import Derived.Carry
import Derived.Handed
import Derived.OpenShut
import Derived.Deep.Slices
import Derived.Deep.Fields
/- From a row's condition to the walk: acts that came in. -/
namespace Go.Proofs.YtogoibigabpkhaaGreat
set_option linter.unusedVariables false
open Go.Joins Go.ChangeShapes Go.WideShapes Go.ChangeAt Go.RowKit Go.Deep

theorem cellsU : Tryz.prog.cellsOf 5 = 1 := by kernel_rfl
theorem cellsA : Tryz.prog.cellsOf 46 = 22 := by kernel_rfl
section
variable {H : Type} {enc : TypeId × Value → H} {W : World} {base : Nat} {spare : Nat → Bool} {held : Bool} {fuel : Nat}
set_option maxRecDepth 100000 in
theorem ent_wf {cs : List Value} {x : DataW H × List MemPlace} {z : Int} (h : DataW.trod enc Tryz.prog W base spare held fuel 44 cs = some x) (hz : cs[0]? = some (.int .i64 z)) : (Lit.int .i64 z).wf = true := by
  obtain ⟨hl, n, hf⟩ := struct_in Tryz.underlying44 h
  rw [cellsE] at hl
  obtain ⟨y0, h0⟩ := hf 0 _ rfl
  simp only [List.getElem_toArray, List.getElem_cons_zero, cellsC, List.drop_zero] at h0
  obtain ⟨hl2, n2, hf2⟩ := struct_in Tryz.underlying40 h0
  obtain ⟨y1, h1⟩ := hf2 0 _ rfl
  simp only [List.getElem_toArray, List.getElem_cons_zero, cellsI, List.drop_zero] at h1
  obtain ⟨z', e, _, hw⟩ := DataW.trod_int Tryz.underlying3 h1
  match cs, hl, hz with
  | c0 :: r, _, hz =>
    have e1 : c0 = .int .i64 z' := by simpa using e
    have e2 : c0 = .int .i64 z := by simpa using hz
    rw [e1] at e2
    cases e2
    exact hw
set_option maxRecDepth 100000 in
theorem act_in {cs : List Value} {x : DataW H × List MemPlace} (h : DataW.trod enc Tryz.prog W base spare held fuel 46 cs = some x) : ∃ a : Ac, cs = a.list ∧ a.at W := by
  obtain ⟨hl, n, hf⟩ := struct_in Tryz.underlying46 h
  rw [cellsA] at hl
  match cs, hl with
  | c0 :: c1 :: c2 :: r, hl =>
    obtain ⟨y0, h0⟩ := hf 0 _ rfl
    obtain ⟨y1, h1⟩ := hf 1 _ rfl
    obtain ⟨y2, h2⟩ := hf 2 _ rfl
    obtain ⟨y3, h3⟩ := hf 3 _ rfl
    simp only [List.getElem_toArray, List.getElem_cons_succ, List.getElem_cons_zero, cellsI, cellsU, cellsS, cellsE, List.drop_succ_cons, List.drop_zero, List.take_succ_cons, List.take_zero] at h0 h1 h2 h3
    have hr : r.length = 19 := by simpa using hl
    rw [List.take_of_length_le (by omega)] at h3
    obtain ⟨k, e0, _, hw⟩ := DataW.trod_int Tryz.underlying5 h0
    obtain ⟨t, rfl⟩ := int_in Tryz.underlying3 h1
    obtain ⟨l, hs, _⟩ := open_cmds_in h2
    obtain ⟨s, rfl, hs⟩ := sv_of hs
    have hwf := fun z hz => ent_wf (z := z) h3 hz
    obtain ⟨y, rfl, hy⟩ := ent_in h3
    have hk : 0 ≤ k ∧ k ≤ 255 := by
      simp only [Lit.wf, Bool.and_eq_true, decide_eq_true_eq] at hw
      exact ⟨hw.1, hw.2⟩
    refine ⟨⟨k.toNat, t, s, l, y⟩, ?_, hs, hy, ?_, hwf y.id rfl⟩
    · simp at e0
      subst e0
      unfold Ac.list
      simp only
      rw [show ((k.toNat : Nat) : Int) = k from by omega]
    · show k.toNat < 256
      omega
end
set_option maxRecDepth 100000 in
/-- A list of acts that came in. -/
theorem open_acts {H : Type} {enc : TypeId × Value → H} {W : World} {base : Nat} {spare : Nat → Bool} {held : Bool} {b0 : Nat} {v : Value} {d : DataW H} {p : List MemPlace} (hv : Value.okWide Tryz.prog W .any b0 24 v) (h : DataW.Trod enc Tryz.prog W base spare held 24 v d p) :
    ∃ xs : List Ac, SlAc W v xs ∧ (∀ a ∈ xs, a.at W) ∧ xs.length ≤ 9223372036854775807 := by
  obtain ⟨a0, n0, c0, rfl⟩ := okWide_slice Tryz.underlying24 hv
  obtain ⟨fuel, hf⟩ := h
  rcases open_slice Tryz.underlying24 hf with h0 | ⟨a, len, cap, m, n, D, Pl, hcs, _, hl, hm, hmm, _, hi⟩
  · have h0 := h0.1
    simp [Value.cells] at h0
    obtain ⟨rfl, rfl, rfl⟩ := h0
    exact ⟨[], SlG.nil _ _ _, fun x hx => by simp at hx, by simp⟩
  · simp [Value.cells] at hcs
    obtain ⟨rfl, rfl, rfl⟩ := hcs
    obtain ⟨xs, hal, hp⟩ := list_of' (n := n0) (P := fun i (x : Ac) => (∀ (f : Nat) u, x.list[f]? = some u → W.cell? (a.add (i * 22 + f)) = some u) ∧ x.at W) fun i hlt => by
      obtain ⟨cs', hc, ht'⟩ := hi i (by rw [hmm]; split <;> omega)
      rw [cellsA] at hc
      obtain ⟨x, rfl, hx⟩ := act_in ht'
      obtain ⟨_, _, hat⟩ := World.cells?_some hc
      refine ⟨x, fun f u hu => ?_, hx⟩
      have hlt := (List.getElem?_eq_some_iff.1 hu).1
      have q := hat f (by rw [Ac.len] at hlt; exact hlt)
      rw [Go.Deep.add_add] at q
      rw [q]; exact hu
    have hfirst : 0 < xs.length → a.spot = none ∧ a.block < W.heap.size := fun h0 => by
      have hc : xs[0]? = some xs[0] := List.getElem?_eq_getElem h0
      have := (hp 0 _ hc).1 0 _ rfl
      exact ⟨by simpa [Addr.add] using World.cell?_spot this, by simpa [Addr.add] using World.block_lt_of_cell? W _ this⟩
    obtain ⟨b, o, spot⟩ := a
    refine ⟨xs, ⟨b, o, c0, some ⟨b, o, spot⟩, by rw [hal], fun h0 => ?_, fun j e hj f u hu => ?_, fun h0 => ?_⟩, fun x hx => ?_, ?_⟩
    · rw [show spot = none from (hfirst (by simpa using h0)).1]
    · have h0 : 0 < xs.length := by have := (List.getElem?_eq_some_iff.1 hj).1; omega
      have := (hp j e hj).1 f u hu
      rw [show spot = none from (hfirst h0).1, add_plain] at this
      rw [← Nat.add_assoc] at this
      exact this
    · exact (hfirst (by simpa using h0)).2
    · obtain ⟨j, hj⟩ := List.getElem?_of_mem hx
      exact (hp j x hj).2
    · rw [hal]; exact Nat.le_trans (Nat.le_trans hl hm) (by decide)
end Go.Proofs.YtogoibigabpkhaaGreat
