/- From a row's condition to the walk: acts that came in. -/
import Derived.Test.YtcfkifiejojciaaNPlays
import Derived.Lib.SmallJoins
import Derived.Carry
import Derived.Handed
import Derived.OpenShut
import Derived.Deep.Slices
import Derived.Deep.Fields
import Derived.ChangeSame
import Derived.ChangeSlices
namespace Go.Proofs.Ytcfkifiejojciaa
set_option linter.unusedVariables false
open Go.Joins Go.ChangeShapes Go.WideShapes Go.ChangeAt Go.RowKit Go.Deep

theorem list_ofA {α : Type} {n : Nat} {P : Nat → α → Prop} (h : ∀ i, i < n → ∃ c, P i c) : ∃ cs : List α, cs.length = n ∧ ∀ (j : Nat) c, cs[j]? = some c → P j c := by
  induction n with
  | zero => exact ⟨[], rfl, fun j c hc => by simp at hc⟩
  | succ n ih =>
    obtain ⟨cs, hl, hp⟩ := ih fun i hi => h i (by omega)
    obtain ⟨c, hc⟩ := h n (by omega)
    refine ⟨cs ++ [c], by simp [hl], fun j d hd => ?_⟩
    by_cases hj : j < cs.length
    · rw [List.getElem?_append_left hj] at hd; exact hp j d hd
    · have hlen := (List.getElem?_eq_some_iff.1 hd).1
      simp at hlen
      obtain rfl : j = cs.length := by omega
      simp at hd
      subst hd
      rw [hl]; exact hc
theorem add_plain (b o n : Nat) : (⟨b, o, none⟩ : Addr).add n = ⟨b, o + n, none⟩ := by
  by_cases h : n = 0
  · subst h; simp [Addr.add]
  · simp [Addr.add, h]

theorem first_plain {W : World} {a : Addr} {v : Value} (h : W.cell? (a.add 0) = some v) : a.spot = none ∧ a.block < W.heap.size :=
  ⟨by simpa [Addr.add] using World.cell?_spot h, by simpa [Addr.add] using World.block_lt_of_cell? W _ h⟩


set_option maxRecDepth 100000 in
theorem octs_in {H : Type} {enc : TypeId × Value → H} {W : World} {base : Nat} {spare : Nat → Bool} {held : Bool} {fuel : Nat} {v : Value} {x : DataW H × List MemPlace} (hf : DataW.trod enc Try.prog W base spare held fuel 40 [v] = some x) :
    ∃ (s : Sv) (l : List UInt8), v = s.v ∧ SlB W s.v l ∧ l.length ≤ 9223372036854775807 := by
  rcases open_ints Try.underlying40 Try.underlying5 (by kernel_rfl) hf with ⟨h0, _⟩ | ⟨a, n0, c0, zs, hcs, _, hl, hm, hzl, _, hc, hwf⟩
  · simp at h0
    subst h0
    exact ⟨⟨none, 0, 0⟩, [], rfl, SlB.nil W, by simp⟩
  · simp at hcs
    subst hcs
    have hle : n0 ≤ zs.length := by rw [hzl]; split <;> omega
    have hlen : ((zs.take n0).map fun x => UInt8.ofNat x.toNat).length = n0 := by rw [List.length_map, List.length_take]; omega
    have hfirst : 0 < n0 → a.spot = none ∧ a.block < W.heap.size := fun h0 => first_plain (hc 0 (by omega))
    obtain ⟨b, o, spot⟩ := a
    refine ⟨⟨some ⟨b, o, spot⟩, n0, c0⟩, (zs.take n0).map fun x => UInt8.ofNat x.toNat, rfl, ⟨b, o, c0, some ⟨b, o, spot⟩, by rw [hlen], (fun e => by cases e), by rw [hlen]; exact hl, fun h0 => ?_, fun j x hx => ?_, fun h0 => (hfirst (by omega)).2⟩, ?_⟩
    · rw [show spot = none from (hfirst (by omega)).1]
    · have hj := (List.getElem?_eq_some_iff.1 hx).1
      have := hc j (by omega)
      rw [show spot = none from (hfirst (by omega)).1, add_plain] at this
      rw [this]
      rw [List.getElem?_map, List.getElem?_take, if_pos (by omega)] at hx
      have hz : zs[j]? = some (zs[j]'(by omega)) := List.getElem?_eq_getElem (by omega)
      rw [hz] at hx
      have hw := hwf _ (List.mem_of_getElem? hz)
      simp only [Option.map_some, Option.some.injEq] at hx
      subst hx
      have hr : 0 ≤ zs[j]'(by omega) ∧ zs[j]'(by omega) ≤ 255 := by
        simp only [Lit.wf, Bool.and_eq_true, decide_eq_true_eq] at hw
        exact ⟨hw.1, hw.2⟩
      rw [toNat_small (by omega)]
      simp only [List.getD, hz, Option.getD_some]
      congr 2
      omega
    · rw [hlen]; exact Nat.le_trans hl (Nat.le_trans hm (by decide))

theorem octs_cells {H : Type} {enc : TypeId × Value → H} {W : World} {base : Nat} {spare : Nat → Bool} {held : Bool} {fuel : Nat} {cs : List Value} {x : DataW H × List MemPlace} (hf : DataW.trod enc Try.prog W base spare held fuel 40 cs = some x) : ∃ v, cs = [v] := by
  rcases open_ints Try.underlying40 Try.underlying5 (by kernel_rfl) hf with ⟨h0, _⟩ | ⟨a, n0, c0, zs, hcs, _⟩
  · exact ⟨_, h0⟩
  · exact ⟨_, hcs⟩
theorem cellsI : Try.prog.cellsOf 3 = 1 := by kernel_rfl
theorem cellsU : Try.prog.cellsOf 5 = 1 := by kernel_rfl
theorem cellsB : Try.prog.cellsOf 40 = 1 := by kernel_rfl
theorem cellsA : Try.prog.cellsOf 36 = 3 := by kernel_rfl
section
variable {H : Type} {enc : TypeId × Value → H} {W : World} {base : Nat} {spare : Nat → Bool} {held : Bool} {fuel : Nat}
theorem struct_in {P : Program} {t : TypeId} {fs : Array Field} {cs : List Value} {x : DataW H × List MemPlace} (ht : P.underlying t = some (.struct fs)) (h : DataW.trod enc P W base spare held fuel t cs = some x) :
    cs.length = P.cellsOf t ∧ ∃ n, ∀ (i : Nat) (f : Field), fs[i]? = some f → ∃ y, DataW.trod enc P W base spare held n f.type ((cs.drop f.offset).take (P.cellsOf f.type)) = some y := by
  obtain ⟨xs, n, _, _, hl, hx, hf⟩ := DataW.trod_struct ht h
  refine ⟨hl, n, fun i f hi => ?_⟩
  have hlt : i < fs.size := (Array.getElem?_eq_some_iff.1 hi).1
  exact ⟨xs[i]'(by omega), (hf i f hi).trans (List.getElem?_eq_getElem (by omega))⟩
theorem int_in {t : TypeId} {c : Value} {x : DataW H × List MemPlace} (ht : Try.prog.underlying t = some (.int .i64)) (h : DataW.trod enc Try.prog W base spare held fuel t [c] = some x) : ∃ z, c = .int .i64 z := by
  obtain ⟨z, e, _, _⟩ := DataW.trod_int ht h
  exact ⟨z, (List.cons.inj e).1⟩
end
theorem octss_in {H : Type} {enc : TypeId × Value → H} {W : World} {base : Nat} {spare : Nat → Bool} {held : Bool} {fuel : Nat} {v : Value} {x : DataW H × List MemPlace} (hf : DataW.trod enc Try.prog W base spare held fuel 31 [v] = some x) :
    ∃ (s : Sv) (ps : Ps), v = s.v ∧ Sr W W.heap.size s.v ps := by
  rcases open_slice Try.underlying31 hf with ⟨h0, _⟩ | ⟨a, n0, c0, m, n, D, Pl, hcs, _, hl, hm, hmm, _, hi⟩
  · simp at h0
    subst h0
    exact ⟨⟨none, 0, 0⟩, [], rfl, (Rw.nil W W.heap.size).sr⟩
  · simp at hcs
    subst hcs
    obtain ⟨ps, hpl, hp⟩ := list_ofA (n := n0) (P := fun i (p : Sv × List UInt8) => W.cell? (a.add i) = some p.1.v ∧ SlB W p.1.v p.2) fun i hlt => by
      obtain ⟨cs', hc, ht⟩ := hi i (by rw [hmm]; split <;> omega)
      obtain ⟨u, rfl⟩ := octs_cells ht
      obtain ⟨s, l, rfl, h1, h2⟩ := octs_in ht
      rw [cellsB, Nat.mul_one] at hc
      obtain ⟨_, _, hat⟩ := World.cells?_some hc
      have := hat 0 (by omega)
      rw [Go.Deep.add_add, Nat.add_zero] at this
      exact ⟨(s, l), this.trans rfl, h1⟩
    have hfirst : 0 < ps.length → a.spot = none ∧ a.block < W.heap.size := fun h0 => by
      have hc : ps[0]? = some ps[0] := List.getElem?_eq_getElem h0
      exact first_plain (hp 0 _ hc).1
    obtain ⟨b, o, spot⟩ := a
    refine ⟨⟨some ⟨b, o, spot⟩, n0, c0⟩, ps, rfl, b, o, c0, some ⟨b, o, spot⟩, by rw [hpl], by rw [hpl]; exact hl, (fun e => by cases e), fun h0 => ?_, fun j p hj => ?_, fun h0 => (hfirst h0).2, fun q hq => ?_⟩
    · rw [show spot = none from (hfirst h0).1]
    · have h0 : 0 < ps.length := by have := (List.getElem?_eq_some_iff.1 hj).1; omega
      have := (hp j p hj).1
      rw [show spot = none from (hfirst h0).1, add_plain] at this
      exact this
    · obtain ⟨j, hj, hje⟩ := List.mem_iff_getElem.1 hq
      exact SlB.bt (hp j q (by rw [List.getElem?_eq_getElem hj, hje])).2 (Nat.le_refl _)
theorem cellsL : Try.prog.cellsOf 31 = 1 := by kernel_rfl
set_option maxRecDepth 100000 in
/-- A list of acts that came in. -/
theorem open_acts {H : Type} {enc : TypeId × Value → H} {W : World} {base : Nat} {spare : Nat → Bool} {held : Bool} {b0 : Nat} {v : Value} {d : DataW H} {p : List MemPlace} (hv : Value.okWide Try.prog W .any b0 22 v) (h : DataW.Trod enc Try.prog W base spare held 22 v d p) :
    ∃ xs : List Av, SlA W W.heap.size v xs := by
  obtain ⟨a0, n0, c0, rfl⟩ := okWide_slice Try.underlying22 hv
  obtain ⟨fuel, hf⟩ := h
  rcases open_slice Try.underlying22 hf with h0 | ⟨a, len, cap, m, n, D, Pl, hcs, _, hl, hm, hmm, _, hi⟩
  · have h0 := h0.1
    simp [Value.cells] at h0
    obtain ⟨rfl, rfl, rfl⟩ := h0
    exact ⟨[], 0, 0, 0, none, rfl, Nat.le_refl _, fun h => absurd h (by simp), (fun j A hA => by simp at hA), fun h => absurd h (by simp)⟩
  · simp [Value.cells] at hcs
    obtain ⟨rfl, rfl, rfl⟩ := hcs
    obtain ⟨xs, hal, hp⟩ := list_ofA (n := n0) (P := fun i (x : Av) => W.cell? (a.add (i * 3)) = some (.int .u8 x.k) ∧ W.cell? (a.add (i * 3 + 1)) = some x.s.v ∧ W.cell? (a.add (i * 3 + 2)) = some (.int .i64 x.i) ∧ Sr W W.heap.size x.s.v x.qs ∧ x.k < 256 ∧ -9223372036854775808 ≤ x.i ∧ x.i ≤ 9223372036854775807) fun i hlt => by
      obtain ⟨cs', hc, ht'⟩ := hi i (by rw [hmm]; split <;> omega)
      rw [cellsA] at hc
      obtain ⟨hlen, n', hg⟩ := struct_in Try.underlying36 ht'
      rw [cellsA] at hlen
      obtain ⟨_, _, hat⟩ := World.cells?_some hc
      match cs', hlen with
      | [c0, c1, c2], _ =>
        obtain ⟨y0, h0⟩ := hg 0 _ rfl
        obtain ⟨y1, h1⟩ := hg 1 _ rfl
        obtain ⟨y2, h2⟩ := hg 2 _ rfl
        simp only [List.getElem_toArray, List.getElem_cons_succ, List.getElem_cons_zero, cellsI, cellsU, cellsL, List.drop_succ_cons, List.drop_zero, List.take_succ_cons, List.take_zero] at h0 h1 h2
        obtain ⟨k, e0, _, hw⟩ := DataW.trod_int Try.underlying5 h0
        obtain ⟨z, e2, _, hw2⟩ := DataW.trod_int Try.underlying3 h2
        obtain ⟨s, l, e1, s1⟩ := octss_in h1
        simp only [List.cons.injEq, and_true] at e0 e2
        subst e0 e1 e2
        have hr : 0 ≤ k ∧ k ≤ 255 := by
          simp only [Lit.wf, Bool.and_eq_true, decide_eq_true_eq] at hw
          exact ⟨hw.1, hw.2⟩
        have hz : -9223372036854775808 ≤ z ∧ z ≤ 9223372036854775807 := by
          simp only [Lit.wf, Bool.and_eq_true, decide_eq_true_eq] at hw2
          exact ⟨hw2.1, hw2.2⟩
        obtain ⟨k, rfl⟩ : ∃ k' : Nat, k = k' := ⟨k.toNat, by omega⟩
        have q0 := hat 0 (by omega)
        have q1 := hat 1 (by omega)
        have q2 := hat 2 (by omega)
        rw [Go.Deep.add_add] at q0 q1 q2
        exact ⟨⟨k, s, l, z⟩, q0, q1, q2, s1, by show k < 256; omega, hz.1, hz.2⟩
    have hfirst : 0 < xs.length → a.spot = none ∧ a.block < W.heap.size := fun h0 => by
      have hc : xs[0]? = some xs[0] := List.getElem?_eq_getElem h0
      have := (hp 0 _ hc).1
      exact ⟨by simpa [Addr.add] using World.cell?_spot this, by simpa [Addr.add] using World.block_lt_of_cell? W _ this⟩
    obtain ⟨b, o, spot⟩ := a
    refine ⟨xs, b, o, c0, some ⟨b, o, spot⟩, by rw [hal], by rw [hal]; exact hl, fun h0 => ?_, fun j x hx => ?_, fun h0 => (hfirst h0).2⟩
    · rw [show spot = none from (hfirst h0).1]
    · have h0 : 0 < xs.length := by have := (List.getElem?_eq_some_iff.1 hx).1; omega
      obtain ⟨g0, g1, g2, g3, g5⟩ := hp j x hx
      rw [show spot = none from (hfirst h0).1] at g0 g1 g2
      rw [add_plain] at g0 g1 g2
      exact ⟨g0, g1, g2, g3, g5⟩
theorem own : ownKnob Try.prog.godebug = none := by kernel_rfl
theorem laidOut : laidOutB Try.prog = true := by kernel_rfl
end Go.Proofs.Ytcfkifiejojciaa
