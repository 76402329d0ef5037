/- The law EntryMore: for every entry and every list of acts: whatever is done with an entry that may be, what is promised never falls, LOW never rises but from 0, HIGH never falls, a fast value and a done one stay, and it still may be; the law returns true. No condition. -/
import Derived.Test.YtmndjdaiailgmaaOpens
import Derived.Test.YtmndjdaiailgmaaRd
import Derived.ChangeSlices
import Derived.OpenShut
import Derived.Test.YtmndjdaiailgmaaMore6
namespace Go.Proofs.Ytmndjdaiailgmaa
set_option linter.unusedVariables false
open Go.Joins Go.ChangeShapes Go.WideShapes Go.ChangeAt Go.RowKit Go.Deep

theorem first_plain {W : World} {a : Addr} {v : Value} (h : W.cell? (a.add 0) = some v) : a.spot = none ∧ a.block < W.heap.size :=
  ⟨by simpa [Addr.add] using World.cell?_spot h, by simpa [Addr.add] using World.block_lt_of_cell? W _ h⟩

set_option maxRecDepth 100000 in
theorem open_nums {H : Type} {enc : TypeId × Value → H} {W : World} {base : Nat} {spare : Nat → Bool} {held : Bool} {b0 : Nat} {v : Value} {d : DataW H} {p : List MemPlace} (hv : Value.okWide Try.prog W .any b0 81 v) (h : DataW.Trod enc Try.prog W base spare held 81 v d p) :
    ∃ l : List Int, SlN W v l ∧ l.length ≤ 9223372036854775807 := by
  obtain ⟨a0, n0, c0, rfl⟩ := okWide_slice Try.underlying81 hv
  obtain ⟨fuel, hf⟩ := h
  rcases open_ints Try.underlying81 Try.underlying3 (by kernel_rfl) hf with ⟨h0, _⟩ | ⟨a, len, cap, zs, hcs, _, hl, hm, hzl, _, hc, _⟩
  · simp [Value.cells] at h0
    obtain ⟨rfl, rfl, rfl⟩ := h0
    exact ⟨[], ⟨0, 0, 0, none, rfl, fun h => absurd h (by simp), fun j x hx => by simp at hx, fun h => absurd h (by simp)⟩, by simp⟩
  · simp [Value.cells] at hcs
    obtain ⟨rfl, rfl, rfl⟩ := hcs
    have hle : n0 ≤ zs.length := by rw [hzl]; split <;> omega
    have hlen : (zs.take n0).length = n0 := by rw [List.length_take]; omega
    have hfirst : 0 < n0 → a.spot = none ∧ a.block < W.heap.size := fun h0 => first_plain (hc 0 (by omega))
    obtain ⟨b, o, spot⟩ := a
    refine ⟨zs.take n0, ⟨b, o, c0, some ⟨b, o, spot⟩, by rw [hlen], fun h0 => ?_, fun j x hx => ?_, fun h0 => (hfirst (by omega)).2⟩, ?_⟩
    · rw [show spot = none from (hfirst (by omega)).1]
    · have hj := (List.getElem?_eq_some_iff.1 hx).1
      have := hc j (by omega)
      rw [show spot = none from (hfirst (by omega)).1, add_plain] at this
      rw [this]
      rw [List.getElem?_take, if_pos (by omega)] at hx
      simp [List.getD, hx]
    · rw [hlen]; exact Nat.le_trans hl (Nat.le_trans hm (by decide))

set_option maxRecDepth 100000 in
theorem open_octs {H : Type} {enc : TypeId × Value → H} {W : World} {base : Nat} {spare : Nat → Bool} {held : Bool} {b0 : Nat} {v : Value} {d : DataW H} {p : List MemPlace} (hv : Value.okWide Try.prog W .any b0 42 v) (h : DataW.Trod enc Try.prog W base spare held 42 v d p) :
    ∃ l : List UInt8, SlB W v l ∧ l.length ≤ 9223372036854775807 := by
  obtain ⟨a0, n0, c0, rfl⟩ := okWide_slice Try.underlying42 hv
  obtain ⟨fuel, hf⟩ := h
  rcases open_ints Try.underlying42 Try.underlying5 (by kernel_rfl) hf with ⟨h0, _⟩ | ⟨a, len, cap, zs, hcs, _, hl, hm, hzl, _, hc, hwf⟩
  · simp [Value.cells] at h0
    obtain ⟨rfl, rfl, rfl⟩ := h0
    exact ⟨[], SlB.nil W, by simp⟩
  · simp [Value.cells] at hcs
    obtain ⟨rfl, rfl, rfl⟩ := hcs
    have hle : n0 ≤ zs.length := by rw [hzl]; split <;> omega
    have hlen : ((zs.take n0).map fun x => UInt8.ofNat x.toNat).length = n0 := by rw [List.length_map, List.length_take]; omega
    have hfirst : 0 < n0 → a.spot = none ∧ a.block < W.heap.size := fun h0 => first_plain (hc 0 (by omega))
    obtain ⟨b, o, spot⟩ := a
    refine ⟨(zs.take n0).map fun x => UInt8.ofNat x.toNat, ⟨b, o, c0, some ⟨b, o, spot⟩, by rw [hlen], (fun e => by cases e), by rw [hlen]; exact hl, fun h0 => ?_, fun j x hx => ?_, fun h0 => (hfirst (by omega)).2⟩, ?_⟩
    · rw [show spot = none from (hfirst (by omega)).1]
    · have hj := (List.getElem?_eq_some_iff.1 hx).1
      have := hc j (by omega)
      rw [show spot = none from (hfirst (by omega)).1, add_plain] at this
      rw [this]
      rw [List.getElem?_map, List.getElem?_take, if_pos (by omega)] at hx
      have hz : zs[j]? = some (zs[j]'(by omega)) := List.getElem?_eq_getElem (by omega)
      rw [hz] at hx
      have hw := hwf _ (List.mem_of_getElem? hz)
      simp only [Option.map_some, Option.some.injEq] at hx
      subst hx
      have hr : 0 ≤ zs[j]'(by omega) ∧ zs[j]'(by omega) ≤ 255 := by
        simp only [Lit.wf, Bool.and_eq_true, decide_eq_true_eq] at hw
        exact ⟨hw.1, hw.2⟩
      rw [toNat_small (by omega)]
      simp only [List.getD, hz, Option.getD_some]
      congr 2
      omega
    · rw [hlen]; exact Nat.le_trans hl (Nat.le_trans hm (by decide))
end Go.Proofs.Ytmndjdaiailgmaa

namespace Go.Proofs.Ytmndjdaiailgmaa
set_option linter.unusedVariables false
open Go.Joins Go.ChangeShapes Go.WideShapes Go.ChangeAt Go.RowKit Go.Deep

set_option maxRecDepth 100000 in
/-- The commands in one cell of a value that came in. -/
theorem open_cmds_in {H : Type} {enc : TypeId × Value → H} {W : World} {base : Nat} {spare : Nat → Bool} {held : Bool} {fuel : Nat} {v : Value} {x : DataW H × List MemPlace} (hf : DataW.trod enc Try.prog W base spare held fuel 26 [v] = some x) :
    ∃ cs : List C7, Sl W v cs ∧ cs.length ≤ 9223372036854775807 := by
  rcases open_fields Try.underlying26 Try.underlying25 (by kernel_rfl) (by kernel_rfl) hf with h0 | ⟨a, len, cap, hcs, hm, hi⟩
  · obtain rfl := (List.cons.inj h0).1
    exact ⟨[], ⟨0, 0, 0, none, rfl, fun _ => rfl, fun h => absurd h (by simp), fun j c hc => by simp at hc, fun h => absurd h (by simp)⟩, by simp⟩
  · obtain rfl := (List.cons.inj hcs).1
    obtain ⟨cs, hl, hp⟩ := list_of (n := len) (P := fun i c => ∀ (f : Nat) u, c.cells[f]? = some u → W.cell? (a.add (i * 7 + f)) = some u) fun i hlt => by
      obtain ⟨n, hf⟩ := hi i hlt
      obtain ⟨v0, y0, g0, t0⟩ := hf 0 _ rfl
      obtain ⟨v1, y1, g1, t1⟩ := hf 1 _ rfl
      obtain ⟨v2, y2, g2, t2⟩ := hf 2 _ rfl
      obtain ⟨v3, y3, g3, t3⟩ := hf 3 _ rfl
      obtain ⟨v4, y4, g4, t4⟩ := hf 4 _ rfl
      obtain ⟨v5, y5, g5, t5⟩ := hf 5 _ rfl
      obtain ⟨v6, y6, g6, t6⟩ := hf 6 _ rfl
      obtain ⟨z0, e0, _, _⟩ := DataW.trod_int Try.underlying3 t0
      obtain ⟨z1, e1, _, _⟩ := DataW.trod_int Try.underlying22 t1
      obtain ⟨z2, e2, _, _⟩ := DataW.trod_int Try.underlying3 t2
      obtain ⟨z3, e3, _, _⟩ := DataW.trod_int Try.underlying3 t3
      obtain ⟨z4, e4, _, _⟩ := DataW.trod_int Try.underlying23 t4
      obtain ⟨z5, e5, _, _⟩ := DataW.trod_int Try.underlying3 t5
      obtain ⟨z6, e6, _, _⟩ := DataW.trod_int Try.underlying3 t6
      simp only [List.cons.injEq, and_true] at e0 e1 e2 e3 e4 e5 e6
      subst e0 e1 e2 e3 e4 e5 e6
      refine ⟨⟨z0, z1, z2, z3, z4, z5, z6⟩, fun f u hu => ?_⟩
      match f, hu with
      | 0, hu => obtain rfl := Option.some.inj hu; exact g0
      | 1, hu => obtain rfl := Option.some.inj hu; exact g1
      | 2, hu => obtain rfl := Option.some.inj hu; exact g2
      | 3, hu => obtain rfl := Option.some.inj hu; exact g3
      | 4, hu => obtain rfl := Option.some.inj hu; exact g4
      | 5, hu => obtain rfl := Option.some.inj hu; exact g5
      | 6, hu => obtain rfl := Option.some.inj hu; exact g6
      | _ + 7, hu => cases hu
    have hfirst : 0 < cs.length → a.spot = none ∧ a.block < W.heap.size := fun h0 => by
      have hc : cs[0]? = some cs[0] := List.getElem?_eq_getElem h0
      have := hp 0 _ hc 0 _ rfl
      exact ⟨by simpa [Addr.add] using World.cell?_spot this, by simpa [Addr.add] using World.block_lt_of_cell? W _ this⟩
    obtain ⟨b, o, spot⟩ := a
    refine ⟨cs, ⟨b, o, cap, some ⟨b, o, spot⟩, by rw [hl], (fun e => by cases e), fun h0 => ?_, fun j c hc f u hu => ?_, fun h0 => (hfirst h0).2⟩, ?_⟩
    · rw [show spot = none from (hfirst h0).1]
    · have h0 : 0 < cs.length := by have := (List.getElem?_eq_some_iff.1 hc).1; omega
      have := hp j c hc f u hu
      rw [show spot = none from (hfirst h0).1] at this
      rw [add_plain] at this
      exact this
    · rw [hl]; exact Nat.le_trans hm (by decide)


/-- A struct of two one-cell fields by value. -/
theorem open_agg2 {H : Type} {enc : TypeId × Value → H} {P : Program} {w : World} {base : Nat} {spare : Nat → Bool} {held : Bool} {r : Reach} {b0 : Nat} {t : TypeId} {f0 f1 : Field} {v : Value} {d : DataW H} {p : List MemPlace}
    (hs : P.underlying t = some (.struct #[f0, f1])) (hone : oneCellFields P #[f0, f1] = true) (hC : P.cellsOf t = 2)
    (hv : Value.okWide P w r b0 t v) (h : DataW.Trod enc P w base spare held t v d p) :
    ∃ (v0 v1 : Value) (y0 y1 : DataW H × List MemPlace) (n : Nat), v = .agg #[v0, v1] ∧ DataW.trod enc P w base spare held n f0.type [v0] = some y0 ∧ DataW.trod enc P w base spare held n f1.type [v1] = some y1 := by
  obtain ⟨cs, rfl, hsz⟩ := okWide_struct hs hv
  obtain ⟨l⟩ := cs
  match l, hsz.trans hC with
  | [c0, c1], _ =>
    obtain ⟨fuel, hf⟩ := h
    obtain ⟨xs, n, _, hx, _, hlen, hg⟩ := DataW.trod_struct hs hf
    obtain ⟨o0, k0⟩ := hone_of hone 0 f0 rfl
    obtain ⟨o1, k1⟩ := hone_of hone 1 f1 rfl
    match xs, hlen with
    | [y0, y1], _ =>
      exact ⟨c0, c1, y0, y1, n, rfl, by simpa [Value.cells, o0, k0] using hg 0 f0 rfl, by simpa [Value.cells, o1, k1] using hg 1 f1 rfl⟩

set_option maxRecDepth 100000 in
/-- A value that came in: a number, and commands. -/
theorem open_value {H : Type} {enc : TypeId × Value → H} {W : World} {base : Nat} {spare : Nat → Bool} {held : Bool} {b0 : Nat} {v : Value} {d : DataW H} {p : List MemPlace} (hv : Value.okWide Try.prog W .any b0 28 v) (h : DataW.Trod enc Try.prog W base spare held 28 v d p) :
    ∃ (t : Int) (vp : Value) (cs : List C7), v = .agg #[.int .i64 t, vp] ∧ Sl W vp cs ∧ cs.length ≤ 9223372036854775807 := by
  obtain ⟨v0, v1, y0, y1, n, rfl, h0, h1⟩ := open_agg2 Try.underlying28 (by kernel_rfl) (by kernel_rfl) hv h
  obtain ⟨z0, e0, _, _⟩ := DataW.trod_int Try.underlying3 h0
  simp only [List.cons.injEq, and_true] at e0
  subst e0
  obtain ⟨cs, hs, hl⟩ := open_cmds_in h1
  exact ⟨z0, v1, cs, rfl, hs, hl⟩
end Go.Proofs.Ytmndjdaiailgmaa

namespace Go.Proofs.Ytmndjdaiailgmaa
set_option linter.unusedVariables false
open Go.Joins Go.ChangeShapes Go.WideShapes Go.ChangeAt Go.RowKit Go.Deep

theorem cellsC : Try.prog.cellsOf 25 = 7 := by kernel_rfl
theorem cellsV : Try.prog.cellsOf 28 = 2 := by kernel_rfl
theorem cellsI : Try.prog.cellsOf 3 = 1 := by kernel_rfl
theorem cellsK : Try.prog.cellsOf 22 = 1 := by kernel_rfl
theorem cellsD : Try.prog.cellsOf 23 = 1 := by kernel_rfl
theorem cellsB : Try.prog.cellsOf 4 = 1 := by kernel_rfl
theorem cellsU : Try.prog.cellsOf 5 = 1 := by kernel_rfl
theorem cellsS : Try.prog.cellsOf 26 = 1 := by kernel_rfl
theorem cellsE : Try.prog.cellsOf 30 = 19 := by kernel_rfl
theorem cellsA : Try.prog.cellsOf 35 = 4 := by kernel_rfl
section
variable {H : Type} {enc : TypeId × Value → H} {W : World} {base : Nat} {spare : Nat → Bool} {held : Bool} {fuel : Nat}
theorem struct_in {P : Program} {t : TypeId} {fs : Array Field} {cs : List Value} {x : DataW H × List MemPlace} (ht : P.underlying t = some (.struct fs)) (h : DataW.trod enc P W base spare held fuel t cs = some x) :
    cs.length = P.cellsOf t ∧ ∃ n, ∀ (i : Nat) (f : Field), fs[i]? = some f → ∃ y, DataW.trod enc P W base spare held n f.type ((cs.drop f.offset).take (P.cellsOf f.type)) = some y := by
  obtain ⟨xs, n, _, _, hl, hx, hf⟩ := DataW.trod_struct ht h
  refine ⟨hl, n, fun i f hi => ?_⟩
  have hlt : i < fs.size := (Array.getElem?_eq_some_iff.1 hi).1
  exact ⟨xs[i]'(by omega), (hf i f hi).trans (List.getElem?_eq_getElem (by omega))⟩
theorem int_in {t : TypeId} {c : Value} {x : DataW H × List MemPlace} (ht : Try.prog.underlying t = some (.int .i64)) (h : DataW.trod enc Try.prog W base spare held fuel t [c] = some x) : ∃ z, c = .int .i64 z := by
  obtain ⟨z, e, _, _⟩ := DataW.trod_int ht h
  exact ⟨z, (List.cons.inj e).1⟩
set_option maxRecDepth 100000 in
theorem cmd_in {cs : List Value} {x : DataW H × List MemPlace} (h : DataW.trod enc Try.prog W base spare held fuel 25 cs = some x) : ∃ c : C7, cs = c.cells := by
  obtain ⟨hl, n, hf⟩ := struct_in Try.underlying25 h
  rw [cellsC] at hl
  match cs, hl with
  | [c0, c1, c2, c3, c4, c5, c6], _ =>
    obtain ⟨y0, h0⟩ := hf 0 _ rfl
    obtain ⟨y1, h1⟩ := hf 1 _ rfl
    obtain ⟨y2, h2⟩ := hf 2 _ rfl
    obtain ⟨y3, h3⟩ := hf 3 _ rfl
    obtain ⟨y4, h4⟩ := hf 4 _ rfl
    obtain ⟨y5, h5⟩ := hf 5 _ rfl
    obtain ⟨y6, h6⟩ := hf 6 _ rfl
    simp only [List.getElem_toArray, List.getElem_cons_succ, List.getElem_cons_zero, cellsI, cellsK, cellsD, List.drop_succ_cons, List.drop_zero, List.take_succ_cons, List.take_zero] at h0 h1 h2 h3 h4 h5 h6
    obtain ⟨z0, rfl⟩ := int_in Try.underlying3 h0
    obtain ⟨z1, rfl⟩ := int_in Try.underlying22 h1
    obtain ⟨z2, rfl⟩ := int_in Try.underlying3 h2
    obtain ⟨z3, rfl⟩ := int_in Try.underlying3 h3
    obtain ⟨z4, rfl⟩ := int_in Try.underlying23 h4
    obtain ⟨z5, rfl⟩ := int_in Try.underlying3 h5
    obtain ⟨z6, rfl⟩ := int_in Try.underlying3 h6
    exact ⟨⟨z0, z1, z2, z3, z4, z5, z6⟩, rfl⟩
theorem sv_of {v : Value} {l : List C7} (h : Sl W v l) : ∃ p : Sv, v = p.v ∧ Sl W p.v l := by
  obtain ⟨_, _, cap, a, rfl, _⟩ := id h
  exact ⟨⟨a, l.length, cap⟩, rfl, h⟩
set_option maxRecDepth 100000 in
theorem value_in {cs : List Value} {x : DataW H × List MemPlace} (h : DataW.trod enc Try.prog W base spare held fuel 28 cs = some x) : ∃ (t : Int) (p : Sv) (l : List C7), cs = [.int .i64 t, p.v] ∧ Sl W p.v l := by
  obtain ⟨hl, n, hf⟩ := struct_in Try.underlying28 h
  rw [cellsV] at hl
  match cs, hl with
  | [c0, c1], _ =>
    obtain ⟨y0, h0⟩ := hf 0 _ rfl
    obtain ⟨y1, h1⟩ := hf 1 _ rfl
    simp only [List.getElem_toArray, List.getElem_cons_succ, List.getElem_cons_zero, cellsI, cellsS, List.drop_succ_cons, List.drop_zero, List.take_succ_cons, List.take_zero] at h0 h1
    obtain ⟨z0, rfl⟩ := int_in Try.underlying3 h0
    obtain ⟨l, hs, _⟩ := open_cmds_in h1
    obtain ⟨p, rfl, hp⟩ := sv_of hs
    exact ⟨z0, p, l, rfl, hp⟩
end
set_option maxRecDepth 100000 in
/-- An entry that came in. -/
theorem open_entry {H : Type} {enc : TypeId × Value → H} {W : World} {base : Nat} {spare : Nat → Bool} {held : Bool} {b0 : Nat} {v : Value} {d : DataW H} {p : List MemPlace} (hv : Value.okWide Try.prog W .any b0 30 v) (h : DataW.Trod enc Try.prog W base spare held 30 v d p) :
    ∃ (e : Ev) (f a u : List C7), v = .agg e.arr ∧ Sl W e.fp.v f ∧ Sl W e.xp.v a ∧ Sl W e.vp.v u := by
  obtain ⟨cs, rfl, hsz⟩ := okWide_struct Try.underlying30 hv
  obtain ⟨fuel, hf0⟩ := h
  obtain ⟨l⟩ := cs
  have hsz2 : l.length = 19 := hsz.trans cellsE
  obtain ⟨_, n, hf⟩ := struct_in Try.underlying30 hf0
  match l, hsz2 with
  | [c0, c1, c2, c3, c4, c5, c6, c7, c8, c9, c10, c11, c12, c13, c14, c15, c16, c17, c18], _ =>
    obtain ⟨y0, h0⟩ := hf 0 _ rfl
    obtain ⟨y1, h1⟩ := hf 1 _ rfl
    obtain ⟨y2, h2⟩ := hf 2 _ rfl
    obtain ⟨y3, h3⟩ := hf 3 _ rfl
    obtain ⟨y4, h4⟩ := hf 4 _ rfl
    obtain ⟨y5, h5⟩ := hf 5 _ rfl
    obtain ⟨y6, h6⟩ := hf 6 _ rfl
    obtain ⟨y7, h7⟩ := hf 7 _ rfl
    obtain ⟨y8, h8⟩ := hf 8 _ rfl
    obtain ⟨y9, h9⟩ := hf 9 _ rfl
    simp only [List.getElem_toArray, List.getElem_cons_succ, List.getElem_cons_zero, Value.cells, cellsI, cellsC, cellsV, cellsB, List.drop_succ_cons, List.drop_zero, List.take_succ_cons, List.take_zero] at h0 h1 h2 h3 h4 h5 h6 h7 h8 h9
    obtain ⟨c, hc⟩ := cmd_in h0
    obtain ⟨z1, rfl⟩ := int_in Try.underlying3 h1
    obtain ⟨z2, rfl⟩ := int_in Try.underlying3 h2
    obtain ⟨z3, rfl⟩ := int_in Try.underlying3 h3
    obtain ⟨t4, p4, l4, e4, s4⟩ := value_in h4
    obtain ⟨z5, rfl⟩ := int_in Try.underlying3 h5
    obtain ⟨t6, p6, l6, e6, s6⟩ := value_in h6
    obtain ⟨b7, e7, _⟩ := DataW.trod_bool Try.underlying4 h7
    obtain ⟨b8, e8, _⟩ := DataW.trod_bool Try.underlying4 h8
    obtain ⟨t9, p9, l9, e9, s9⟩ := value_in h9
    simp only [C7.cells, List.cons.injEq, and_true] at hc e4 e6 e7 e8 e9
    obtain ⟨rfl, rfl, rfl, rfl, rfl, rfl, rfl⟩ := hc
    obtain ⟨rfl, rfl⟩ := e4
    obtain ⟨rfl, rfl⟩ := e6
    subst e7 e8
    obtain ⟨rfl, rfl⟩ := e9
    exact ⟨⟨c, z1, z2, z3, t4, p4, z5, t6, p6, b7, b8, t9, p9⟩, l4, l6, l9, rfl, s4, s6, s9⟩
theorem list_of' {α : Type} {n : Nat} {P : Nat → α → Prop} (h : ∀ i, i < n → ∃ c, P i c) : ∃ cs : List α, cs.length = n ∧ ∀ (j : Nat) c, cs[j]? = some c → P j c := by
  induction n with
  | zero => exact ⟨[], rfl, fun j c hc => by simp at hc⟩
  | succ n ih =>
    obtain ⟨cs, hl, hp⟩ := ih fun i hi => h i (by omega)
    obtain ⟨c, hc⟩ := h n (by omega)
    refine ⟨cs ++ [c], by simp [hl], fun j d hd => ?_⟩
    by_cases hj : j < cs.length
    · rw [List.getElem?_append_left hj] at hd; exact hp j d hd
    · have hlen := (List.getElem?_eq_some_iff.1 hd).1
      simp at hlen
      obtain rfl : j = cs.length := by omega
      simp at hd
      subst hd
      rw [hl]; exact hc
set_option maxRecDepth 100000 in
/-- A list of acts that came in. -/
theorem open_acts {H : Type} {enc : TypeId × Value → H} {W : World} {base : Nat} {spare : Nat → Bool} {held : Bool} {b0 : Nat} {v : Value} {d : DataW H} {p : List MemPlace} (hv : Value.okWide Try.prog W .any b0 31 v) (h : DataW.Trod enc Try.prog W base spare held 31 v d p) :
    ∃ (acs : List Ac) (bl o cap : Nat) (ad : Option Addr), v = .slice ad acs.length cap ∧ acs.length ≤ 9223372036854775807 ∧ (0 < acs.length → ad = some ⟨bl, o, none⟩) ∧ ActsAt W bl o acs ∧ (0 < acs.length → bl < W.heap.size) := by
  obtain ⟨a0, n0, c0, rfl⟩ := okWide_slice Try.underlying31 hv
  obtain ⟨fuel, hf⟩ := h
  rcases open_slice Try.underlying31 hf with h0 | ⟨a, len, cap, m, n, D, Pl, hcs, _, hl, hm, hmm, _, hi⟩
  · have h0 := h0.1
    simp [Value.cells] at h0
    obtain ⟨rfl, rfl, rfl⟩ := h0
    exact ⟨[], 0, 0, 0, none, rfl, by simp, fun h => absurd h (by simp), fun j A hA => by simp at hA, fun h => absurd h (by simp)⟩
  · simp [Value.cells] at hcs
    obtain ⟨rfl, rfl, rfl⟩ := hcs
    obtain ⟨acs, hal, hp⟩ := list_of' (n := n0) (P := fun i (A : Ac) => W.cell? (a.add (i * 4)) = some (.int .u8 A.k) ∧ W.cell? (a.add (i * 4 + 1)) = some (.int .i64 A.b) ∧ W.cell? (a.add (i * 4 + 2)) = some (.int .i64 A.t) ∧ W.cell? (a.add (i * 4 + 3)) = some A.p.v ∧ Sl W A.p.v A.l ∧ 0 ≤ A.k ∧ A.k < 256) fun i hlt => by
      obtain ⟨cs', hc, ht'⟩ := hi i (by rw [hmm]; split <;> omega)
      rw [cellsA] at hc
      obtain ⟨hlen, n', hg⟩ := struct_in Try.underlying35 ht'
      rw [cellsA] at hlen
      obtain ⟨_, _, hat⟩ := World.cells?_some hc
      match cs', hlen with
      | [c0, c1, c2, c3], _ =>
        obtain ⟨y0, h0⟩ := hg 0 _ rfl
        obtain ⟨y1, h1⟩ := hg 1 _ rfl
        obtain ⟨y2, h2⟩ := hg 2 _ rfl
        simp only [List.getElem_toArray, List.getElem_cons_succ, List.getElem_cons_zero, cellsI, cellsU, cellsV, List.drop_succ_cons, List.drop_zero, List.take_succ_cons, List.take_zero] at h0 h1 h2
        obtain ⟨k, e0, _, hw⟩ := DataW.trod_int Try.underlying5 h0
        obtain ⟨b, rfl⟩ := int_in Try.underlying3 h1
        obtain ⟨t, p, l, e2, s2⟩ := value_in h2
        simp only [List.cons.injEq, and_true] at e0 e2
        subst e0
        obtain ⟨rfl, rfl⟩ := e2
        have hr : 0 ≤ k ∧ k ≤ 255 := by
          simp only [Lit.wf, Bool.and_eq_true, decide_eq_true_eq] at hw
          exact ⟨hw.1, hw.2⟩
        have q0 := hat 0 (by omega)
        have q1 := hat 1 (by omega)
        have q2 := hat 2 (by omega)
        have q3 := hat 3 (by omega)
        rw [Go.Deep.add_add] at q0 q1 q2 q3
        exact ⟨⟨k, b, t, p, l⟩, q0, q1, q2, q3, s2, hr.1, by show k < 256; omega⟩
    have hfirst : 0 < acs.length → a.spot = none ∧ a.block < W.heap.size := fun h0 => by
      have hc : acs[0]? = some acs[0] := List.getElem?_eq_getElem h0
      have := (hp 0 _ hc).1
      exact ⟨by simpa [Addr.add] using World.cell?_spot this, by simpa [Addr.add] using World.block_lt_of_cell? W _ this⟩
    obtain ⟨b, o, spot⟩ := a
    refine ⟨acs, b, o, c0, some ⟨b, o, spot⟩, by rw [hal], ?_, fun h0 => ?_, fun j A hA => ?_, fun h0 => (hfirst h0).2⟩
    · rw [hal]; exact Nat.le_trans (Nat.le_trans hl hm) (by decide)
    · rw [show spot = none from (hfirst h0).1]
    · have h0 : 0 < acs.length := by have := (List.getElem?_eq_some_iff.1 hA).1; omega
      obtain ⟨g0, g1, g2, g3, g4, g5, g6⟩ := hp j A hA
      rw [show spot = none from (hfirst h0).1] at g0 g1 g2 g3
      rw [add_plain] at g0 g1 g2 g3
      exact ⟨g0, g1, g2, g3, g4, g5, g6⟩
end Go.Proofs.Ytmndjdaiailgmaa

namespace Go.Proofs.Ytmndjdaiailgmaa
set_option linter.unusedVariables false
open Go.Joins Go.ChangeShapes Go.WideShapes Go.ChangeAt Go.RowKit Go.Deep

theorem cMore_all {e : Ev} {f a v : List C7} {acs : List Ac} {bl o cap : Nat} {ad : Option Addr} {w : World} (hf : Sl w e.fp.v f) (ha : Sl w e.xp.v a) (hv : Sl w e.vp.v v) (had : 0 < acs.length → ad = some ⟨bl, o, none⟩) (hA : ActsAt w bl o acs) (hbl : 0 < acs.length → bl < w.heap.size) :
    Calls Try.prog 3 #[.agg e.arr, .slice ad acs.length cap] w fun x w' => x = .returned (.bool true) ∧ Below w.heap.size w w' := by
  rcases h : fitsE e with _ | _
  · exact cMore_fits (bl := bl) (o := o) hf ha hv h
  by_cases hl : 80 < acs.length
  · exact cMore_long (bl := bl) (o := o) hf ha hv h hl
  have hfit : e.fp.n ≤ 80 ∧ e.xp.n ≤ 80 ∧ e.vp.n ≤ 80 := by
    unfold fitsE at h
    simp only [Bool.and_eq_true, decide_eq_true_eq, and_assoc] at h
    exact h
  have lf : f.length ≤ 80 := by rw [← hf.len]; exact hfit.1
  have la : a.length ≤ 80 := by rw [← ha.len]; exact hfit.2.1
  have lv : v.length ≤ 80 := by rw [← hv.len]; exact hfit.2.2
  rcases hr : rightE e f a v with _ | _
  · exact cMore_not (bl := bl) (o := o) hf ha hv h (by omega) lf la lv hr
  · exact cMore_loop hf ha hv had hA hbl h (by omega) lf la lv hr

set_option maxRecDepth 100000 in
theorem lifted (os : Os) (started : os.Started) (H : Type) (enc : TypeId × Value → H) :
    ReturnsInHanded {} Try.checked os 3 .any (Rows.entryMoreSpec.pre6 enc Try.prog Try.f3 Rows.entryMoreRow.domain false) (Rows.entryMoreSpec.post enc Try.prog Try.f3 false true false false) := by
  refine returnsInHanded_of_change (C := Try.checked) own started (by kernel_rfl) Try.func3
    (ChangeSpec.witness6 (enc := enc) (C := Try.checked) false ⟨#[], #[.agg #[.int .i64 0, .int .i64 0, .int .i64 0, .int .i64 0, .int .i64 0, .int .i64 0, .int .i64 0, .int .i64 0, .int .i64 0, .int .i64 0, .int .i64 0, .slice none 0 0, .int .i64 0, .int .i64 0, .slice none 0 0, .bool false, .bool false, .int .i64 0, .slice none 0 0], .slice none 0 0], []⟩ 12 (by kernel_rfl) (by kernel_rfl) (by kernel_rfl) (by kernel_rfl)) ?_
  intro W base args ds gs before hval0 hW hcnd _
  have hval : ∀ (j : Nat) t v, Try.f3.params[j]? = some t → args[j]? = some v → Value.okWide Try.prog W .any base t v := hval0
  have hW' := hW
  obtain ⟨p, q, hA0, hV, rfl, hfz, hnd⟩ := hW
  have hA : DataW.TrodAll enc Try.prog W 0 (fun _ => true) true Try.f3.params.toList args.toList ds p := hA0
  rw [Try.params3] at hA hval
  obtain ⟨v0, v1, d0, d1, p0, p1, rfl, rfl, rfl, h0, h1⟩ := trodAll_two hA
  obtain ⟨rfl, rfl⟩ := trodVars_none hV
  obtain ⟨e, f, a, u, rfl, hf, ha, hu⟩ := open_entry (hval 0 30 v0 rfl rfl) h0
  obtain ⟨acs, bl, o, cap, ad, rfl, hl, had, hac, hbl⟩ := open_acts (hval 1 31 v1 rfl rfl) h1
  refine (cMore_all hf ha hu had hac hbl).mono fun e W' ⟨he, hB⟩ => ?_
  subst he
  have hlt0 : ∀ x ∈ p0, x.block < W.heap.size := fun x hx => hW'.lt x (by simp [hx])
  have hlt1 : ∀ x ∈ p1, x.block < W.heap.size := fun x hx => hW'.lt x (by simp [hx])
  exact ⟨_, rfl, _, _, _, [], p0 ++ (p1 ++ []), [], hW', trodAll_mk1 (shut_bool Try.underlying4 _), trodAll_cons_mk (Below.trod laidOut (by kernel_rfl) (of_decide_eq_true (by kernel_rfl)) h0 hB hlt0) (trodAll_cons_mk (Below.trod laidOut (by kernel_rfl) (of_decide_eq_true (by kernel_rfl)) h1 hB hlt1) trodAll_mk0), rfl, hB.frame _, fun h => by cases h⟩

theorem over : Rows.entryMoreRow.holds Try.pinned (OpenSpec.ofChange Rows.entryMoreSpec) :=
  OpenClaim.holds_of_wide 3 Try.f3 rfl rfl rfl rfl rfl rfl rfl ⟨rfl, rfl, rfl, rfl, rfl⟩ rfl rfl rfl rfl rfl (by kernel_rfl) Try.func3 (by kernel_rfl)
    (of_decide_eq_true (by kernel_rfl)) (by unfold Func.isWrapper; first | (rw [if_pos (by decide +kernel)]; kernel_rfl) | (rw [if_neg (by decide +kernel)]; exact ⟨rfl, rfl⟩))
    (fun os started H enc _ => lifted os started H enc)

/-- The statement. -/
theorem proved : Rows.EntryMoreSaid :=
  over
end Go.Proofs.Ytmndjdaiailgmaa
