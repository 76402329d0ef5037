import Derived.Test.YtogoibigabpkhaaGreatG04
import Derived.Lib.SmallJoins
import Derived.Carry
import Derived.Handed
import Derived.OpenShut
import Derived.Deep.Slices
import Derived.Deep.Fields
import Derived.ChangeSame
import Derived.Test.YtogoibigabpkhaaGreatG06
import Derived.ChangeSlices
import Derived.Test.YtogoibigabpkhaaGreatG10
/- From a row's condition to the walk: a slice of commands that came in, as a list of commands that lie in its cells. -/
namespace Go.Proofs.YtogoibigabpkhaaGreat
set_option linter.unusedVariables false
open Go.Joins Go.ChangeShapes Go.WideShapes Go.ChangeAt Go.RowKit Go.Deep

theorem list_of {n : Nat} {P : Nat → C7 → Prop} (h : ∀ i, i < n → ∃ c, P i c) : ∃ cs : List C7, cs.length = n ∧ ∀ (j : Nat) c, cs[j]? = some c → P j c := by
  induction n with
  | zero => exact ⟨[], rfl, fun j c hc => by simp at hc⟩
  | succ n ih =>
    obtain ⟨cs, hl, hp⟩ := ih fun i hi => h i (by omega)
    obtain ⟨c, hc⟩ := h n (by omega)
    refine ⟨cs ++ [c], by simp [hl], fun j d hd => ?_⟩
    by_cases hj : j < cs.length
    · rw [List.getElem?_append_left hj] at hd; exact hp j d hd
    · have hlen := (List.getElem?_eq_some_iff.1 hd).1
      simp at hlen
      obtain rfl : j = cs.length := by omega
      simp at hd
      subst hd
      rw [hl]; exact hc

theorem add_plain (b o n : Nat) : (⟨b, o, none⟩ : Addr).add n = ⟨b, o + n, none⟩ := by
  by_cases h : n = 0
  · subst h; simp [Addr.add]
  · simp [Addr.add, h]

/-- A slice of structs of one-cell fields, field by field. -/
theorem open_fields {H : Type} {enc : TypeId × Value → H} {P : Program} {w : World} {base : Nat} {spare : Nat → Bool} {held : Bool} {t e : TypeId} {fs : Array Field} {fuel : Nat} {cs : List Value} {x : DataW H × List MemPlace} (ht : P.underlying t = some (.slice e)) (he : P.underlying e = some (.struct fs))
    (hone : oneCellFields P fs = true) (hC : P.cellsOf e = fs.size) (h : DataW.trod enc P w base spare held fuel t cs = some x) :
    cs = [.slice none 0 0] ∨
    ∃ (a : Addr) (len cap : Nat), cs = [.slice (some a) len cap] ∧ len ≤ maxLen ∧
      ∀ i, i < len → ∃ n : Nat, ∀ (j : Nat) (f : Field), fs[j]? = some f → ∃ (v : Value) (y : DataW H × List MemPlace), w.cell? (a.add (i * fs.size + j)) = some v ∧ DataW.trod enc P w base spare held n f.type [v] = some y := by
  rcases open_slice ht h with h0 | ⟨a, len, cap, m, n, D, Pl, hcs, _, hl, hm, hmm, _, hi⟩
  · exact .inl h0.1
  · refine .inr ⟨a, len, cap, hcs, by omega, fun i him => ?_⟩
    obtain ⟨cs', hc, ht'⟩ := hi i (by rw [hmm]; split <;> omega)
    rw [hC] at hc
    obtain ⟨ys, n', _, _, hlen, hyl, hf⟩ := DataW.trod_struct he ht'
    obtain ⟨_, _, hat⟩ := World.cells?_some hc
    refine ⟨n', fun j f hj => ?_⟩
    obtain ⟨ho, hk⟩ := hone_of hone j f hj
    have hjl : j < fs.size := (Array.getElem?_eq_some_iff.1 hj).1
    have hcell := hat j hjl
    have hv : cs'[j]? = some (cs'[j]'(by omega)) := List.getElem?_eq_getElem (by omega)
    have h1 := hf j f hj
    rw [ho, hk] at h1
    have hone' : (cs'.drop j).take 1 = [cs'[j]'(by omega)] := by
      rw [List.drop_eq_getElem_cons (by omega)]
      rfl
    rw [hone'] at h1
    have hys : ys[j]? = some (ys[j]'(by omega)) := List.getElem?_eq_getElem (by omega)
    refine ⟨_, _, ?_, h1.trans hys⟩
    rw [← Go.Deep.add_add, hcell, hv]

set_option maxRecDepth 100000 in
/-- The commands that came in: a nil slice, or so many commands behind an address. -/
theorem open_cmds {H : Type} {enc : TypeId × Value → H} {W : World} {base : Nat} {spare : Nat → Bool} {held : Bool} {b0 : Nat} {v : Value} {d : DataW H} {p : List MemPlace} (hv : Value.okWide Tryz.prog W .any b0 36 v) (h : DataW.Trod enc Tryz.prog W base spare held 36 v d p) :
    ∃ cs : List C7, Sl W v cs ∧ cs.length ≤ 9223372036854775807 := by
  obtain ⟨a0, n0, c0, rfl⟩ := okWide_slice Tryz.underlying36 hv
  obtain ⟨fuel, hf⟩ := h
  rcases open_fields Tryz.underlying36 Tryz.underlying40 (by kernel_rfl) (by kernel_rfl) hf with h0 | ⟨a, len, cap, hcs, hm, hi⟩
  · simp [Value.cells] at h0
    obtain ⟨rfl, rfl, rfl⟩ := h0
    exact ⟨[], ⟨0, 0, 0, none, rfl, fun _ => rfl, fun h => absurd h (by simp), fun j c hc => by simp at hc, fun h => absurd h (by simp)⟩, by simp⟩
  · simp [Value.cells] at hcs
    obtain ⟨rfl, rfl, rfl⟩ := hcs
    obtain ⟨cs, hl, hp⟩ := list_of (n := n0) (P := fun i c => ∀ (f : Nat) u, c.cells[f]? = some u → W.cell? (a.add (i * 7 + f)) = some u) fun i hlt => by
      obtain ⟨n, hf⟩ := hi i hlt
      obtain ⟨v0, y0, g0, t0⟩ := hf 0 _ rfl
      obtain ⟨v1, y1, g1, t1⟩ := hf 1 _ rfl
      obtain ⟨v2, y2, g2, t2⟩ := hf 2 _ rfl
      obtain ⟨v3, y3, g3, t3⟩ := hf 3 _ rfl
      obtain ⟨v4, y4, g4, t4⟩ := hf 4 _ rfl
      obtain ⟨v5, y5, g5, t5⟩ := hf 5 _ rfl
      obtain ⟨v6, y6, g6, t6⟩ := hf 6 _ rfl
      obtain ⟨z0, e0, _, _⟩ := DataW.trod_int Tryz.underlying3 t0
      obtain ⟨z1, e1, _, _⟩ := DataW.trod_int Tryz.underlying37 t1
      obtain ⟨z2, e2, _, _⟩ := DataW.trod_int Tryz.underlying3 t2
      obtain ⟨z3, e3, _, _⟩ := DataW.trod_int Tryz.underlying3 t3
      obtain ⟨z4, e4, _, _⟩ := DataW.trod_int Tryz.underlying38 t4
      obtain ⟨z5, e5, _, _⟩ := DataW.trod_int Tryz.underlying3 t5
      obtain ⟨z6, e6, _, _⟩ := DataW.trod_int Tryz.underlying3 t6
      simp only [List.cons.injEq, and_true] at e0 e1 e2 e3 e4 e5 e6
      subst e0 e1 e2 e3 e4 e5 e6
      refine ⟨⟨z0, z1, z2, z3, z4, z5, z6⟩, fun f u hu => ?_⟩
      match f, hu with
      | 0, hu => obtain rfl := Option.some.inj hu; exact g0
      | 1, hu => obtain rfl := Option.some.inj hu; exact g1
      | 2, hu => obtain rfl := Option.some.inj hu; exact g2
      | 3, hu => obtain rfl := Option.some.inj hu; exact g3
      | 4, hu => obtain rfl := Option.some.inj hu; exact g4
      | 5, hu => obtain rfl := Option.some.inj hu; exact g5
      | 6, hu => obtain rfl := Option.some.inj hu; exact g6
      | _ + 7, hu => cases hu
    have hfirst : 0 < cs.length → a.spot = none ∧ a.block < W.heap.size := fun h0 => by
      have hc : cs[0]? = some cs[0] := List.getElem?_eq_getElem h0
      have := hp 0 _ hc 0 _ rfl
      exact ⟨by simpa [Addr.add] using World.cell?_spot this, by simpa [Addr.add] using World.block_lt_of_cell? W _ this⟩
    obtain ⟨b, o, spot⟩ := a
    refine ⟨cs, ⟨b, o, c0, some ⟨b, o, spot⟩, by rw [hl], (fun e => by cases e), fun h0 => ?_, fun j c hc f u hu => ?_, fun h0 => (hfirst h0).2⟩, ?_⟩
    · rw [show spot = none from (hfirst h0).1]
    · have h0 : 0 < cs.length := by have := (List.getElem?_eq_some_iff.1 hc).1; omega
      have := hp j c hc f u hu
      rw [show spot = none from (hfirst h0).1] at this
      rw [add_plain] at this
      exact this
    · rw [hl]; exact Nat.le_trans hm (by decide)

theorem own : ownKnob Tryz.prog.godebug = none := by kernel_rfl
theorem laidOut : laidOutB Tryz.prog = true := by kernel_rfl
end Go.Proofs.YtogoibigabpkhaaGreat
/- From a row's condition to the walk: a slice of numbers, a slice of bytes that came in. -/

namespace Go.Proofs.YtogoibigabpkhaaGreat
set_option linter.unusedVariables false
open Go.Joins Go.ChangeShapes Go.WideShapes Go.ChangeAt Go.RowKit Go.Deep

theorem first_plain {W : World} {a : Addr} {v : Value} (h : W.cell? (a.add 0) = some v) : a.spot = none ∧ a.block < W.heap.size :=
  ⟨by simpa [Addr.add] using World.cell?_spot h, by simpa [Addr.add] using World.block_lt_of_cell? W _ h⟩

set_option maxRecDepth 100000 in
theorem open_nums {H : Type} {enc : TypeId × Value → H} {W : World} {base : Nat} {spare : Nat → Bool} {held : Bool} {b0 : Nat} {v : Value} {d : DataW H} {p : List MemPlace} (hv : Value.okWide Tryz.prog W .any b0 50 v) (h : DataW.Trod enc Tryz.prog W base spare held 50 v d p) :
    ∃ l : List Int, SlN W v l ∧ l.length ≤ 9223372036854775807 := by
  obtain ⟨a0, n0, c0, rfl⟩ := okWide_slice Tryz.underlying50 hv
  obtain ⟨fuel, hf⟩ := h
  rcases open_ints Tryz.underlying50 Tryz.underlying3 (by kernel_rfl) hf with ⟨h0, _⟩ | ⟨a, len, cap, zs, hcs, _, hl, hm, hzl, _, hc, _⟩
  · simp [Value.cells] at h0
    obtain ⟨rfl, rfl, rfl⟩ := h0
    exact ⟨[], ⟨0, 0, 0, none, rfl, fun h => absurd h (by simp), fun j x hx => by simp at hx, fun h => absurd h (by simp)⟩, by simp⟩
  · simp [Value.cells] at hcs
    obtain ⟨rfl, rfl, rfl⟩ := hcs
    have hle : n0 ≤ zs.length := by rw [hzl]; split <;> omega
    have hlen : (zs.take n0).length = n0 := by rw [List.length_take]; omega
    have hfirst : 0 < n0 → a.spot = none ∧ a.block < W.heap.size := fun h0 => first_plain (hc 0 (by omega))
    obtain ⟨b, o, spot⟩ := a
    refine ⟨zs.take n0, ⟨b, o, c0, some ⟨b, o, spot⟩, by rw [hlen], fun h0 => ?_, fun j x hx => ?_, fun h0 => (hfirst (by omega)).2⟩, ?_⟩
    · rw [show spot = none from (hfirst (by omega)).1]
    · have hj := (List.getElem?_eq_some_iff.1 hx).1
      have := hc j (by omega)
      rw [show spot = none from (hfirst (by omega)).1, add_plain] at this
      rw [this]
      rw [List.getElem?_take, if_pos (by omega)] at hx
      simp [List.getD, hx]
    · rw [hlen]; exact Nat.le_trans hl (Nat.le_trans hm (by decide))

end Go.Proofs.YtogoibigabpkhaaGreat
/- From a row's condition to the walk: a value that came in. -/
namespace Go.Proofs.YtogoibigabpkhaaGreat
set_option linter.unusedVariables false
open Go.Joins Go.ChangeShapes Go.WideShapes Go.ChangeAt Go.RowKit Go.Deep

set_option maxRecDepth 100000 in
/-- The commands in one cell of a value that came in. -/
theorem open_cmds_in {H : Type} {enc : TypeId × Value → H} {W : World} {base : Nat} {spare : Nat → Bool} {held : Bool} {fuel : Nat} {v : Value} {x : DataW H × List MemPlace} (hf : DataW.trod enc Tryz.prog W base spare held fuel 36 [v] = some x) :
    ∃ cs : List C7, Sl W v cs ∧ cs.length ≤ 9223372036854775807 := by
  rcases open_fields Tryz.underlying36 Tryz.underlying40 (by kernel_rfl) (by kernel_rfl) hf with h0 | ⟨a, len, cap, hcs, hm, hi⟩
  · obtain rfl := (List.cons.inj h0).1
    exact ⟨[], ⟨0, 0, 0, none, rfl, fun _ => rfl, fun h => absurd h (by simp), fun j c hc => by simp at hc, fun h => absurd h (by simp)⟩, by simp⟩
  · obtain rfl := (List.cons.inj hcs).1
    obtain ⟨cs, hl, hp⟩ := list_of (n := len) (P := fun i c => ∀ (f : Nat) u, c.cells[f]? = some u → W.cell? (a.add (i * 7 + f)) = some u) fun i hlt => by
      obtain ⟨n, hf⟩ := hi i hlt
      obtain ⟨v0, y0, g0, t0⟩ := hf 0 _ rfl
      obtain ⟨v1, y1, g1, t1⟩ := hf 1 _ rfl
      obtain ⟨v2, y2, g2, t2⟩ := hf 2 _ rfl
      obtain ⟨v3, y3, g3, t3⟩ := hf 3 _ rfl
      obtain ⟨v4, y4, g4, t4⟩ := hf 4 _ rfl
      obtain ⟨v5, y5, g5, t5⟩ := hf 5 _ rfl
      obtain ⟨v6, y6, g6, t6⟩ := hf 6 _ rfl
      obtain ⟨z0, e0, _, _⟩ := DataW.trod_int Tryz.underlying3 t0
      obtain ⟨z1, e1, _, _⟩ := DataW.trod_int Tryz.underlying37 t1
      obtain ⟨z2, e2, _, _⟩ := DataW.trod_int Tryz.underlying3 t2
      obtain ⟨z3, e3, _, _⟩ := DataW.trod_int Tryz.underlying3 t3
      obtain ⟨z4, e4, _, _⟩ := DataW.trod_int Tryz.underlying38 t4
      obtain ⟨z5, e5, _, _⟩ := DataW.trod_int Tryz.underlying3 t5
      obtain ⟨z6, e6, _, _⟩ := DataW.trod_int Tryz.underlying3 t6
      simp only [List.cons.injEq, and_true] at e0 e1 e2 e3 e4 e5 e6
      subst e0 e1 e2 e3 e4 e5 e6
      refine ⟨⟨z0, z1, z2, z3, z4, z5, z6⟩, fun f u hu => ?_⟩
      match f, hu with
      | 0, hu => obtain rfl := Option.some.inj hu; exact g0
      | 1, hu => obtain rfl := Option.some.inj hu; exact g1
      | 2, hu => obtain rfl := Option.some.inj hu; exact g2
      | 3, hu => obtain rfl := Option.some.inj hu; exact g3
      | 4, hu => obtain rfl := Option.some.inj hu; exact g4
      | 5, hu => obtain rfl := Option.some.inj hu; exact g5
      | 6, hu => obtain rfl := Option.some.inj hu; exact g6
      | _ + 7, hu => cases hu
    have hfirst : 0 < cs.length → a.spot = none ∧ a.block < W.heap.size := fun h0 => by
      have hc : cs[0]? = some cs[0] := List.getElem?_eq_getElem h0
      have := hp 0 _ hc 0 _ rfl
      exact ⟨by simpa [Addr.add] using World.cell?_spot this, by simpa [Addr.add] using World.block_lt_of_cell? W _ this⟩
    obtain ⟨b, o, spot⟩ := a
    refine ⟨cs, ⟨b, o, cap, some ⟨b, o, spot⟩, by rw [hl], (fun e => by cases e), fun h0 => ?_, fun j c hc f u hu => ?_, fun h0 => (hfirst h0).2⟩, ?_⟩
    · rw [show spot = none from (hfirst h0).1]
    · have h0 : 0 < cs.length := by have := (List.getElem?_eq_some_iff.1 hc).1; omega
      have := hp j c hc f u hu
      rw [show spot = none from (hfirst h0).1] at this
      rw [add_plain] at this
      exact this
    · rw [hl]; exact Nat.le_trans hm (by decide)


/-- A struct of two one-cell fields by value. -/
theorem open_agg2 {H : Type} {enc : TypeId × Value → H} {P : Program} {w : World} {base : Nat} {spare : Nat → Bool} {held : Bool} {r : Reach} {b0 : Nat} {t : TypeId} {f0 f1 : Field} {v : Value} {d : DataW H} {p : List MemPlace}
    (hs : P.underlying t = some (.struct #[f0, f1])) (hone : oneCellFields P #[f0, f1] = true) (hC : P.cellsOf t = 2)
    (hv : Value.okWide P w r b0 t v) (h : DataW.Trod enc P w base spare held t v d p) :
    ∃ (v0 v1 : Value) (y0 y1 : DataW H × List MemPlace) (n : Nat), v = .agg #[v0, v1] ∧ DataW.trod enc P w base spare held n f0.type [v0] = some y0 ∧ DataW.trod enc P w base spare held n f1.type [v1] = some y1 := by
  obtain ⟨cs, rfl, hsz⟩ := okWide_struct hs hv
  obtain ⟨l⟩ := cs
  match l, hsz.trans hC with
  | [c0, c1], _ =>
    obtain ⟨fuel, hf⟩ := h
    obtain ⟨xs, n, _, hx, _, hlen, hg⟩ := DataW.trod_struct hs hf
    obtain ⟨o0, k0⟩ := hone_of hone 0 f0 rfl
    obtain ⟨o1, k1⟩ := hone_of hone 1 f1 rfl
    match xs, hlen with
    | [y0, y1], _ =>
      exact ⟨c0, c1, y0, y1, n, rfl, by simpa [Value.cells, o0, k0] using hg 0 f0 rfl, by simpa [Value.cells, o1, k1] using hg 1 f1 rfl⟩

set_option maxRecDepth 100000 in
/-- A value that came in: a number, and commands. -/
theorem open_value {H : Type} {enc : TypeId × Value → H} {W : World} {base : Nat} {spare : Nat → Bool} {held : Bool} {b0 : Nat} {v : Value} {d : DataW H} {p : List MemPlace} (hv : Value.okWide Tryz.prog W .any b0 42 v) (h : DataW.Trod enc Tryz.prog W base spare held 42 v d p) :
    ∃ (t : Int) (vp : Value) (cs : List C7), v = .agg #[.int .i64 t, vp] ∧ Sl W vp cs ∧ cs.length ≤ 9223372036854775807 := by
  obtain ⟨v0, v1, y0, y1, n, rfl, h0, h1⟩ := open_agg2 Tryz.underlying42 (by kernel_rfl) (by kernel_rfl) hv h
  obtain ⟨z0, e0, _, _⟩ := DataW.trod_int Tryz.underlying3 h0
  simp only [List.cons.injEq, and_true] at e0
  subst e0
  obtain ⟨cs, hs, hl⟩ := open_cmds_in h1
  exact ⟨z0, v1, cs, rfl, hs, hl⟩
end Go.Proofs.YtogoibigabpkhaaGreat
/- From a row's condition to the walk: entries that came in. -/

namespace Go.Proofs.YtogoibigabpkhaaGreat
set_option linter.unusedVariables false
open Go.Joins Go.ChangeShapes Go.WideShapes Go.ChangeAt Go.RowKit Go.Deep

theorem cellsC : Tryz.prog.cellsOf 40 = 7 := by kernel_rfl
theorem cellsV : Tryz.prog.cellsOf 42 = 2 := by kernel_rfl
theorem cellsI : Tryz.prog.cellsOf 3 = 1 := by kernel_rfl
theorem cellsK : Tryz.prog.cellsOf 37 = 1 := by kernel_rfl
theorem cellsD : Tryz.prog.cellsOf 38 = 1 := by kernel_rfl
theorem cellsB : Tryz.prog.cellsOf 4 = 1 := by kernel_rfl
theorem cellsS : Tryz.prog.cellsOf 36 = 1 := by kernel_rfl
theorem cellsE : Tryz.prog.cellsOf 44 = 19 := by kernel_rfl
section
variable {H : Type} {enc : TypeId × Value → H} {W : World} {base : Nat} {spare : Nat → Bool} {held : Bool} {fuel : Nat}
theorem struct_in {P : Program} {t : TypeId} {fs : Array Field} {cs : List Value} {x : DataW H × List MemPlace} (ht : P.underlying t = some (.struct fs)) (h : DataW.trod enc P W base spare held fuel t cs = some x) :
    cs.length = P.cellsOf t ∧ ∃ n, ∀ (i : Nat) (f : Field), fs[i]? = some f → ∃ y, DataW.trod enc P W base spare held n f.type ((cs.drop f.offset).take (P.cellsOf f.type)) = some y := by
  obtain ⟨xs, n, _, _, hl, hx, hf⟩ := DataW.trod_struct ht h
  refine ⟨hl, n, fun i f hi => ?_⟩
  have hlt : i < fs.size := (Array.getElem?_eq_some_iff.1 hi).1
  exact ⟨xs[i]'(by omega), (hf i f hi).trans (List.getElem?_eq_getElem (by omega))⟩
theorem int_in {t : TypeId} {c : Value} {x : DataW H × List MemPlace} (ht : Tryz.prog.underlying t = some (.int .i64)) (h : DataW.trod enc Tryz.prog W base spare held fuel t [c] = some x) : ∃ z, c = .int .i64 z := by
  obtain ⟨z, e, _, _⟩ := DataW.trod_int ht h
  exact ⟨z, (List.cons.inj e).1⟩
set_option maxRecDepth 100000 in
theorem cmd_in {cs : List Value} {x : DataW H × List MemPlace} (h : DataW.trod enc Tryz.prog W base spare held fuel 40 cs = some x) : ∃ c : C7, cs = c.cells := by
  obtain ⟨hl, n, hf⟩ := struct_in Tryz.underlying40 h
  rw [cellsC] at hl
  match cs, hl with
  | [c0, c1, c2, c3, c4, c5, c6], _ =>
    obtain ⟨y0, h0⟩ := hf 0 _ rfl
    obtain ⟨y1, h1⟩ := hf 1 _ rfl
    obtain ⟨y2, h2⟩ := hf 2 _ rfl
    obtain ⟨y3, h3⟩ := hf 3 _ rfl
    obtain ⟨y4, h4⟩ := hf 4 _ rfl
    obtain ⟨y5, h5⟩ := hf 5 _ rfl
    obtain ⟨y6, h6⟩ := hf 6 _ rfl
    simp only [List.getElem_toArray, List.getElem_cons_succ, List.getElem_cons_zero, cellsI, cellsK, cellsD, List.drop_succ_cons, List.drop_zero, List.take_succ_cons, List.take_zero] at h0 h1 h2 h3 h4 h5 h6
    obtain ⟨z0, rfl⟩ := int_in Tryz.underlying3 h0
    obtain ⟨z1, rfl⟩ := int_in Tryz.underlying37 h1
    obtain ⟨z2, rfl⟩ := int_in Tryz.underlying3 h2
    obtain ⟨z3, rfl⟩ := int_in Tryz.underlying3 h3
    obtain ⟨z4, rfl⟩ := int_in Tryz.underlying38 h4
    obtain ⟨z5, rfl⟩ := int_in Tryz.underlying3 h5
    obtain ⟨z6, rfl⟩ := int_in Tryz.underlying3 h6
    exact ⟨⟨z0, z1, z2, z3, z4, z5, z6⟩, rfl⟩
theorem sv_of {v : Value} {l : List C7} (h : Sl W v l) : ∃ p : Sv, v = p.v ∧ Sl W p.v l := by
  obtain ⟨_, _, cap, a, rfl, _⟩ := id h
  exact ⟨⟨a, l.length, cap⟩, rfl, h⟩
set_option maxRecDepth 100000 in
theorem value_in {cs : List Value} {x : DataW H × List MemPlace} (h : DataW.trod enc Tryz.prog W base spare held fuel 42 cs = some x) : ∃ (t : Int) (p : Sv) (l : List C7), cs = [.int .i64 t, p.v] ∧ Sl W p.v l := by
  obtain ⟨hl, n, hf⟩ := struct_in Tryz.underlying42 h
  rw [cellsV] at hl
  match cs, hl with
  | [c0, c1], _ =>
    obtain ⟨y0, h0⟩ := hf 0 _ rfl
    obtain ⟨y1, h1⟩ := hf 1 _ rfl
    simp only [List.getElem_toArray, List.getElem_cons_succ, List.getElem_cons_zero, cellsI, cellsS, List.drop_succ_cons, List.drop_zero, List.take_succ_cons, List.take_zero] at h0 h1
    obtain ⟨z0, rfl⟩ := int_in Tryz.underlying3 h0
    obtain ⟨l, hs, _⟩ := open_cmds_in h1
    obtain ⟨p, rfl, hp⟩ := sv_of hs
    exact ⟨z0, p, l, rfl, hp⟩
set_option maxRecDepth 100000 in
theorem ent_in {cs : List Value} {x : DataW H × List MemPlace} (h : DataW.trod enc Tryz.prog W base spare held fuel 44 cs = some x) : ∃ y : En, cs = y.e.list ∧ y.at W := by
  obtain ⟨hl, n, hf⟩ := struct_in Tryz.underlying44 h
  rw [cellsE] at hl
  match cs, hl with
  | [c0, c1, c2, c3, c4, c5, c6, c7, c8, c9, c10, c11, c12, c13, c14, c15, c16, c17, c18], _ =>
    obtain ⟨y0, h0⟩ := hf 0 _ rfl
    obtain ⟨y1, h1⟩ := hf 1 _ rfl
    obtain ⟨y2, h2⟩ := hf 2 _ rfl
    obtain ⟨y3, h3⟩ := hf 3 _ rfl
    obtain ⟨y4, h4⟩ := hf 4 _ rfl
    obtain ⟨y5, h5⟩ := hf 5 _ rfl
    obtain ⟨y6, h6⟩ := hf 6 _ rfl
    obtain ⟨y7, h7⟩ := hf 7 _ rfl
    obtain ⟨y8, h8⟩ := hf 8 _ rfl
    obtain ⟨y9, h9⟩ := hf 9 _ rfl
    simp only [List.getElem_toArray, List.getElem_cons_succ, List.getElem_cons_zero, cellsI, cellsC, cellsV, cellsB, List.drop_succ_cons, List.drop_zero, List.take_succ_cons, List.take_zero] at h0 h1 h2 h3 h4 h5 h6 h7 h8 h9
    obtain ⟨c, hc⟩ := cmd_in h0
    obtain ⟨z1, rfl⟩ := int_in Tryz.underlying3 h1
    obtain ⟨z2, rfl⟩ := int_in Tryz.underlying3 h2
    obtain ⟨z3, rfl⟩ := int_in Tryz.underlying3 h3
    obtain ⟨t4, p4, l4, e4, s4⟩ := value_in h4
    obtain ⟨z5, rfl⟩ := int_in Tryz.underlying3 h5
    obtain ⟨t6, p6, l6, e6, s6⟩ := value_in h6
    obtain ⟨b7, e7, _⟩ := DataW.trod_bool Tryz.underlying4 h7
    obtain ⟨b8, e8, _⟩ := DataW.trod_bool Tryz.underlying4 h8
    obtain ⟨t9, p9, l9, e9, s9⟩ := value_in h9
    simp only [C7.cells, List.cons.injEq, and_true] at hc e4 e6 e7 e8 e9
    obtain ⟨rfl, rfl, rfl, rfl, rfl, rfl, rfl⟩ := hc
    obtain ⟨rfl, rfl⟩ := e4
    obtain ⟨rfl, rfl⟩ := e6
    subst e7 e8
    obtain ⟨rfl, rfl⟩ := e9
    exact ⟨⟨⟨c, z1, z2, z3, t4, p4, z5, t6, p6, b7, b8, t9, p9⟩, l4, l6, l9⟩, rfl, s4, s6, s9⟩
end
theorem list_of' {α : Type} {n : Nat} {P : Nat → α → Prop} (h : ∀ i, i < n → ∃ c, P i c) : ∃ cs : List α, cs.length = n ∧ ∀ (j : Nat) c, cs[j]? = some c → P j c := by
  induction n with
  | zero => exact ⟨[], rfl, fun j c hc => by simp at hc⟩
  | succ n ih =>
    obtain ⟨cs, hl, hp⟩ := ih fun i hi => h i (by omega)
    obtain ⟨c, hc⟩ := h n (by omega)
    refine ⟨cs ++ [c], by simp [hl], fun j d hd => ?_⟩
    by_cases hj : j < cs.length
    · rw [List.getElem?_append_left hj] at hd; exact hp j d hd
    · have hlen := (List.getElem?_eq_some_iff.1 hd).1
      simp at hlen
      obtain rfl : j = cs.length := by omega
      simp at hd
      subst hd
      rw [hl]; exact hc
set_option maxRecDepth 100000 in
/-- A list of entries that came in. -/
theorem open_ents {H : Type} {enc : TypeId × Value → H} {W : World} {base : Nat} {spare : Nat → Bool} {held : Bool} {b0 : Nat} {v : Value} {d : DataW H} {p : List MemPlace} (hv : Value.okWide Tryz.prog W .any b0 23 v) (h : DataW.Trod enc Tryz.prog W base spare held 23 v d p) :
    ∃ xs : List En, SlE W v (xs.map En.e) ∧ AllAt W xs ∧ xs.length ≤ 9223372036854775807 := by
  obtain ⟨a0, n0, c0, rfl⟩ := okWide_slice Tryz.underlying23 hv
  obtain ⟨fuel, hf⟩ := h
  rcases open_slice Tryz.underlying23 hf with h0 | ⟨a, len, cap, m, n, D, Pl, hcs, _, hl, hm, hmm, _, hi⟩
  · have h0 := h0.1
    simp [Value.cells] at h0
    obtain ⟨rfl, rfl, rfl⟩ := h0
    exact ⟨[], SlG.nil _ _ _, fun x hx => by simp at hx, by simp⟩
  · simp [Value.cells] at hcs
    obtain ⟨rfl, rfl, rfl⟩ := hcs
    obtain ⟨xs, hal, hp⟩ := list_of' (n := n0) (P := fun i (x : En) => (∀ (f : Nat) u, x.e.list[f]? = some u → W.cell? (a.add (i * 19 + f)) = some u) ∧ x.at W) fun i hlt => by
      obtain ⟨cs', hc, ht'⟩ := hi i (by rw [hmm]; split <;> omega)
      rw [cellsE] at hc
      obtain ⟨x, rfl, hx⟩ := ent_in ht'
      obtain ⟨_, _, hat⟩ := World.cells?_some hc
      refine ⟨x, fun f u hu => ?_, hx⟩
      have hlt := (List.getElem?_eq_some_iff.1 hu).1
      have q := hat f (by rw [Ev.len] at hlt; exact hlt)
      rw [Go.Deep.add_add] at q
      rw [q]; exact hu
    have hfirst : 0 < xs.length → a.spot = none ∧ a.block < W.heap.size := fun h0 => by
      have hc : xs[0]? = some xs[0] := List.getElem?_eq_getElem h0
      have := (hp 0 _ hc).1 0 _ rfl
      exact ⟨by simpa [Addr.add] using World.cell?_spot this, by simpa [Addr.add] using World.block_lt_of_cell? W _ this⟩
    obtain ⟨b, o, spot⟩ := a
    refine ⟨xs, ⟨b, o, c0, some ⟨b, o, spot⟩, by rw [List.length_map, hal], fun h0 => ?_, fun j e hj f u hu => ?_, fun h0 => ?_⟩, fun x hx => ?_, ?_⟩
    · rw [show spot = none from (hfirst (by simpa using h0)).1]
    · rw [List.getElem?_map] at hj
      rcases hxj : xs[j]? with _ | x
      · rw [hxj] at hj; cases hj
      · rw [hxj] at hj
        cases hj
        have h0 : 0 < xs.length := by have := (List.getElem?_eq_some_iff.1 hxj).1; omega
        have := (hp j x hxj).1 f u hu
        rw [show spot = none from (hfirst h0).1, add_plain] at this
        rw [← Nat.add_assoc] at this
        exact this
    · exact (hfirst (by simpa using h0)).2
    · obtain ⟨j, hj⟩ := List.getElem?_of_mem hx
      exact (hp j x hj).2
    · rw [hal]; exact Nat.le_trans (Nat.le_trans hl hm) (by decide)
end Go.Proofs.YtogoibigabpkhaaGreat
