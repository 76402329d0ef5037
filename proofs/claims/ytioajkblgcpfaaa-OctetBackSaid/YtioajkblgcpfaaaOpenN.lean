/- From a row's condition to the walk: a slice of numbers, a slice of bytes that came in. -/
import Derived.Test.YtioajkblgcpfaaaOpens
import Derived.Test.YtioajkblgcpfaaaRd
import Derived.ChangeSlices
namespace Go.Proofs.Ytioajkblgcpfaaa
set_option linter.unusedVariables false
open Go.Joins Go.ChangeShapes Go.WideShapes Go.ChangeAt Go.RowKit Go.Deep

theorem first_plain {W : World} {a : Addr} {v : Value} (h : W.cell? (a.add 0) = some v) : a.spot = none ∧ a.block < W.heap.size :=
  ⟨by simpa [Addr.add] using World.cell?_spot h, by simpa [Addr.add] using World.block_lt_of_cell? W _ h⟩

set_option maxRecDepth 100000 in
theorem open_nums {H : Type} {enc : TypeId × Value → H} {W : World} {base : Nat} {spare : Nat → Bool} {held : Bool} {b0 : Nat} {v : Value} {d : DataW H} {p : List MemPlace} (hv : Value.okWide Try.prog W .any b0 22 v) (h : DataW.Trod enc Try.prog W base spare held 22 v d p) :
    ∃ l : List Int, SlN W v l ∧ l.length ≤ 9223372036854775807 := by
  obtain ⟨a0, n0, c0, rfl⟩ := okWide_slice Try.underlying22 hv
  obtain ⟨fuel, hf⟩ := h
  rcases open_ints Try.underlying22 Try.underlying3 (by kernel_rfl) hf with ⟨h0, _⟩ | ⟨a, len, cap, zs, hcs, _, hl, hm, hzl, _, hc, _⟩
  · simp [Value.cells] at h0
    obtain ⟨rfl, rfl, rfl⟩ := h0
    exact ⟨[], ⟨0, 0, 0, none, rfl, fun h => absurd h (by simp), fun j x hx => by simp at hx, fun h => absurd h (by simp)⟩, by simp⟩
  · simp [Value.cells] at hcs
    obtain ⟨rfl, rfl, rfl⟩ := hcs
    have hle : n0 ≤ zs.length := by rw [hzl]; split <;> omega
    have hlen : (zs.take n0).length = n0 := by rw [List.length_take]; omega
    have hfirst : 0 < n0 → a.spot = none ∧ a.block < W.heap.size := fun h0 => first_plain (hc 0 (by omega))
    obtain ⟨b, o, spot⟩ := a
    refine ⟨zs.take n0, ⟨b, o, c0, some ⟨b, o, spot⟩, by rw [hlen], fun h0 => ?_, fun j x hx => ?_, fun h0 => (hfirst (by omega)).2⟩, ?_⟩
    · rw [show spot = none from (hfirst (by omega)).1]
    · have hj := (List.getElem?_eq_some_iff.1 hx).1
      have := hc j (by omega)
      rw [show spot = none from (hfirst (by omega)).1, add_plain] at this
      rw [this]
      rw [List.getElem?_take, if_pos (by omega)] at hx
      simp [List.getD, hx]
    · rw [hlen]; exact Nat.le_trans hl (Nat.le_trans hm (by decide))

set_option maxRecDepth 100000 in
theorem open_octs {H : Type} {enc : TypeId × Value → H} {W : World} {base : Nat} {spare : Nat → Bool} {held : Bool} {b0 : Nat} {v : Value} {d : DataW H} {p : List MemPlace} (hv : Value.okWide Try.prog W .any b0 25 v) (h : DataW.Trod enc Try.prog W base spare held 25 v d p) :
    ∃ l : List UInt8, SlB W v l ∧ l.length ≤ 9223372036854775807 := by
  obtain ⟨a0, n0, c0, rfl⟩ := okWide_slice Try.underlying25 hv
  obtain ⟨fuel, hf⟩ := h
  rcases open_ints Try.underlying25 Try.underlying5 (by kernel_rfl) hf with ⟨h0, _⟩ | ⟨a, len, cap, zs, hcs, _, hl, hm, hzl, _, hc, hwf⟩
  · simp [Value.cells] at h0
    obtain ⟨rfl, rfl, rfl⟩ := h0
    exact ⟨[], SlB.nil W, by simp⟩
  · simp [Value.cells] at hcs
    obtain ⟨rfl, rfl, rfl⟩ := hcs
    have hle : n0 ≤ zs.length := by rw [hzl]; split <;> omega
    have hlen : ((zs.take n0).map fun x => UInt8.ofNat x.toNat).length = n0 := by rw [List.length_map, List.length_take]; omega
    have hfirst : 0 < n0 → a.spot = none ∧ a.block < W.heap.size := fun h0 => first_plain (hc 0 (by omega))
    obtain ⟨b, o, spot⟩ := a
    refine ⟨(zs.take n0).map fun x => UInt8.ofNat x.toNat, ⟨b, o, c0, some ⟨b, o, spot⟩, by rw [hlen], (fun e => by cases e), by rw [hlen]; exact hl, fun h0 => ?_, fun j x hx => ?_, fun h0 => (hfirst (by omega)).2⟩, ?_⟩
    · rw [show spot = none from (hfirst (by omega)).1]
    · have hj := (List.getElem?_eq_some_iff.1 hx).1
      have := hc j (by omega)
      rw [show spot = none from (hfirst (by omega)).1, add_plain] at this
      rw [this]
      rw [List.getElem?_map, List.getElem?_take, if_pos (by omega)] at hx
      have hz : zs[j]? = some (zs[j]'(by omega)) := List.getElem?_eq_getElem (by omega)
      rw [hz] at hx
      have hw := hwf _ (List.mem_of_getElem? hz)
      simp only [Option.map_some, Option.some.injEq] at hx
      subst hx
      have hr : 0 ≤ zs[j]'(by omega) ∧ zs[j]'(by omega) ≤ 255 := by
        simp only [Lit.wf, Bool.and_eq_true, decide_eq_true_eq] at hw
        exact ⟨hw.1, hw.2⟩
      rw [toNat_small (by omega)]
      simp only [List.getD, hz, Option.getD_some]
      congr 2
      omega
    · rw [hlen]; exact Nat.le_trans hl (Nat.le_trans hm (by decide))
end Go.Proofs.Ytioajkblgcpfaaa
