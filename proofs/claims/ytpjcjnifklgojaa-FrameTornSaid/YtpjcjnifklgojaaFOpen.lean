/- From a row's condition to the walk: bytes that came in, and slices of them. -/
import Derived.Test.YtpjcjnifklgojaaFTells
import Derived.Lib.SmallJoins
import Derived.Carry
import Derived.Handed
import Derived.OpenShut
import Derived.Deep.Slices
import Derived.Deep.Fields
import Derived.ChangeSame
import Derived.ChangeSlices
namespace Go.Proofs.Ytpjcjnifklgojaa
set_option linter.unusedVariables false
open Go.Joins Go.ChangeShapes Go.WideShapes Go.ChangeAt Go.RowKit Go.Deep

theorem list_ofA {α : Type} {n : Nat} {P : Nat → α → Prop} (h : ∀ i, i < n → ∃ c, P i c) : ∃ cs : List α, cs.length = n ∧ ∀ (j : Nat) c, cs[j]? = some c → P j c := by
  induction n with
  | zero => exact ⟨[], rfl, fun j c hc => by simp at hc⟩
  | succ n ih =>
    obtain ⟨cs, hl, hp⟩ := ih fun i hi => h i (by omega)
    obtain ⟨c, hc⟩ := h n (by omega)
    refine ⟨cs ++ [c], by simp [hl], fun j d hd => ?_⟩
    by_cases hj : j < cs.length
    · rw [List.getElem?_append_left hj] at hd; exact hp j d hd
    · have hlen := (List.getElem?_eq_some_iff.1 hd).1
      simp at hlen
      obtain rfl : j = cs.length := by omega
      simp at hd
      subst hd
      rw [hl]; exact hc
theorem add_plain (b o n : Nat) : (⟨b, o, none⟩ : Addr).add n = ⟨b, o + n, none⟩ := by
  by_cases h : n = 0
  · subst h; simp [Addr.add]
  · simp [Addr.add, h]

theorem first_plain {W : World} {a : Addr} {v : Value} (h : W.cell? (a.add 0) = some v) : a.spot = none ∧ a.block < W.heap.size :=
  ⟨by simpa [Addr.add] using World.cell?_spot h, by simpa [Addr.add] using World.block_lt_of_cell? W _ h⟩


set_option maxRecDepth 100000 in
theorem octs_in {H : Type} {enc : TypeId × Value → H} {W : World} {base : Nat} {spare : Nat → Bool} {held : Bool} {fuel : Nat} {v : Value} {x : DataW H × List MemPlace} (hf : DataW.trod enc Try.prog W base spare held fuel 22 [v] = some x) :
    ∃ (s : Sv) (l : List UInt8), v = s.v ∧ SlB W s.v l ∧ l.length ≤ 9223372036854775807 := by
  rcases open_ints Try.underlying22 Try.underlying5 (by kernel_rfl) hf with ⟨h0, _⟩ | ⟨a, n0, c0, zs, hcs, _, hl, hm, hzl, _, hc, hwf⟩
  · simp at h0
    subst h0
    exact ⟨⟨none, 0, 0⟩, [], rfl, SlB.nil W, by simp⟩
  · simp at hcs
    subst hcs
    have hle : n0 ≤ zs.length := by rw [hzl]; split <;> omega
    have hlen : ((zs.take n0).map fun x => UInt8.ofNat x.toNat).length = n0 := by rw [List.length_map, List.length_take]; omega
    have hfirst : 0 < n0 → a.spot = none ∧ a.block < W.heap.size := fun h0 => first_plain (hc 0 (by omega))
    obtain ⟨b, o, spot⟩ := a
    refine ⟨⟨some ⟨b, o, spot⟩, n0, c0⟩, (zs.take n0).map fun x => UInt8.ofNat x.toNat, rfl, ⟨b, o, c0, some ⟨b, o, spot⟩, by rw [hlen], (fun e => by cases e), by rw [hlen]; exact hl, fun h0 => ?_, fun j x hx => ?_, fun h0 => (hfirst (by omega)).2⟩, ?_⟩
    · rw [show spot = none from (hfirst (by omega)).1]
    · have hj := (List.getElem?_eq_some_iff.1 hx).1
      have := hc j (by omega)
      rw [show spot = none from (hfirst (by omega)).1, add_plain] at this
      rw [this]
      rw [List.getElem?_map, List.getElem?_take, if_pos (by omega)] at hx
      have hz : zs[j]? = some (zs[j]'(by omega)) := List.getElem?_eq_getElem (by omega)
      rw [hz] at hx
      have hw := hwf _ (List.mem_of_getElem? hz)
      simp only [Option.map_some, Option.some.injEq] at hx
      subst hx
      have hr : 0 ≤ zs[j]'(by omega) ∧ zs[j]'(by omega) ≤ 255 := by
        simp only [Lit.wf, Bool.and_eq_true, decide_eq_true_eq] at hw
        exact ⟨hw.1, hw.2⟩
      rw [toNat_small (by omega)]
      simp only [List.getD, hz, Option.getD_some]
      congr 2
      omega
    · rw [hlen]; exact Nat.le_trans hl (Nat.le_trans hm (by decide))

theorem octs_cells {H : Type} {enc : TypeId × Value → H} {W : World} {base : Nat} {spare : Nat → Bool} {held : Bool} {fuel : Nat} {cs : List Value} {x : DataW H × List MemPlace} (hf : DataW.trod enc Try.prog W base spare held fuel 22 cs = some x) : ∃ v, cs = [v] := by
  rcases open_ints Try.underlying22 Try.underlying5 (by kernel_rfl) hf with ⟨h0, _⟩ | ⟨a, n0, c0, zs, hcs, _⟩
  · exact ⟨_, h0⟩
  · exact ⟨_, hcs⟩
theorem open_octs {H : Type} {enc : TypeId × Value → H} {W : World} {base : Nat} {spare : Nat → Bool} {held : Bool} {b0 : Nat} {v : Value} {d : DataW H} {p : List MemPlace} (hv : Value.okWide Try.prog W .any b0 22 v) (h : DataW.Trod enc Try.prog W base spare held 22 v d p) :
    ∃ l : List UInt8, SlB W v l ∧ l.length ≤ 9223372036854775807 := by
  obtain ⟨a0, n0, c0, rfl⟩ := okWide_slice Try.underlying22 hv
  obtain ⟨fuel, hf⟩ := h
  obtain ⟨s, l, hs, h1, h2⟩ := octs_in hf
  rw [hs]
  exact ⟨l, h1, h2⟩
theorem open_octss {H : Type} {enc : TypeId × Value → H} {W : World} {base : Nat} {spare : Nat → Bool} {held : Bool} {b0 : Nat} {v : Value} {d : DataW H} {p : List MemPlace} (hv : Value.okWide Try.prog W .any b0 27 v) (h : DataW.Trod enc Try.prog W base spare held 27 v d p) :
    ∃ ls : List (List UInt8), SlL W v ls ∧ ls.length ≤ 9223372036854775807 ∧ ∀ l ∈ ls, l.length ≤ 9223372036854775807 := by
  obtain ⟨a0, n0, c0, rfl⟩ := okWide_slice Try.underlying27 hv
  obtain ⟨fuel, hf⟩ := h
  rcases open_slice Try.underlying27 hf with ⟨h0, _⟩ | ⟨a, len, cap, m, n, D, Pl, hcs, _, hl, hm, hmm, _, hi⟩
  · simp [Value.cells] at h0
    obtain ⟨rfl, rfl, rfl⟩ := h0
    exact ⟨[], ⟨0, 0, 0, none, [], rfl, rfl, Nat.le_refl _, fun h => absurd h (by simp), fun j p hp => by simp at hp, fun h => absurd h (by simp)⟩, by simp, by simp⟩
  · simp [Value.cells] at hcs
    obtain ⟨rfl, rfl, rfl⟩ := hcs
    obtain ⟨ps, hpl, hp⟩ := list_ofA (n := n0) (P := fun i (p : Sv × List UInt8) => W.cell? (a.add i) = some p.1.v ∧ SlB W p.1.v p.2 ∧ p.2.length ≤ 9223372036854775807) fun i hlt => by
      obtain ⟨cs', hc, ht⟩ := hi i (by rw [hmm]; split <;> omega)
      obtain ⟨u, rfl⟩ := octs_cells ht
      obtain ⟨s, l, rfl, h1, h2⟩ := octs_in ht
      have hC : Try.prog.cellsOf 22 = 1 := by kernel_rfl
      rw [hC, Nat.mul_one] at hc
      obtain ⟨_, _, hat⟩ := World.cells?_some hc
      have := hat 0 (by omega)
      rw [Go.Deep.add_add, Nat.add_zero] at this
      exact ⟨(s, l), this.trans rfl, h1, h2⟩
    have hfirst : 0 < ps.length → a.spot = none ∧ a.block < W.heap.size := fun h0 => by
      have hc : ps[0]? = some ps[0] := List.getElem?_eq_getElem h0
      exact first_plain (hp 0 _ hc).1
    obtain ⟨b, o, spot⟩ := a
    refine ⟨ps.map (fun p => p.2), ⟨b, o, c0, some ⟨b, o, spot⟩, ps, rfl, by rw [List.length_map, hpl], by rw [List.length_map, hpl]; exact hl, fun h0 => ?_, fun j p hj => ?_, fun h0 => ?_⟩, ?_, ?_⟩
    · rw [List.length_map] at h0
      rw [show spot = none from (hfirst h0).1]
    · have h0 : 0 < ps.length := by have := (List.getElem?_eq_some_iff.1 hj).1; omega
      have := (hp j p hj).1
      rw [show spot = none from (hfirst h0).1, add_plain] at this
      exact ⟨this, (hp j p hj).2.1⟩
    · rw [List.length_map] at h0
      exact (hfirst h0).2
    · rw [List.length_map, hpl]; exact Nat.le_trans hl (Nat.le_trans hm (by decide))
    · intro l hl2
      obtain ⟨p, hpm, rfl⟩ := List.mem_map.1 hl2
      obtain ⟨j, hj, hje⟩ := List.mem_iff_getElem.1 hpm
      exact (hp j p (by rw [List.getElem?_eq_getElem hj, hje])).2.2
theorem own : ownKnob Try.prog.godebug = none := by kernel_rfl
theorem laidOut : laidOutB Try.prog = true := by kernel_rfl
end Go.Proofs.Ytpjcjnifklgojaa
