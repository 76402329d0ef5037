import Derived.Test.YtlehcaacfgocaaaGreatG01
import Derived.Lib.SmallJoins
import Derived.Carry
import Derived.Handed
import Derived.OpenShut
import Derived.Deep.Slices
import Derived.Deep.Fields
import Derived.ChangeSame
import Derived.Test.YtlehcaacfgocaaaGreatG02
import Derived.ChangeSlices
import Derived.Test.YtlehcaacfgocaaaGreatG03
import Derived.Test.YtlehcaacfgocaaaGreatVBaseZm
import Derived.Test.YtlehcaacfgocaaaGreatG20
import Derived.Test.YtlehcaacfgocaaaGreatVAliveZm
import Derived.Test.YtlehcaacfgocaaaGreatG41
namespace Go.Proofs.YtlehcaacfgocaaaGreat
set_option linter.unusedVariables false
open Go.Joins Go.ChangeShapes Go.WideShapes Go.ChangeAt Go.RowKit Go.Deep
theorem list_of {n : Nat} {P : Nat → C7 → Prop} (h : ∀ i, i < n → ∃ c, P i c) : ∃ cs : List C7, cs.length = n ∧ ∀ (j : Nat) c, cs[j]? = some c → P j c := by
  induction n with
  | zero => exact ⟨[], rfl, fun j c hc => by simp at hc⟩
  | succ n ih =>
    obtain ⟨cs, hl, hp⟩ := ih fun i hi => h i (by omega)
    obtain ⟨c, hc⟩ := h n (by omega)
    refine ⟨cs ++ [c], by simp [hl], fun j d hd => ?_⟩
    by_cases hj : j < cs.length
    · rw [List.getElem?_append_left hj] at hd; exact hp j d hd
    · have hlen := (List.getElem?_eq_some_iff.1 hd).1
      simp at hlen
      obtain rfl : j = cs.length := by omega
      simp at hd
      subst hd
      rw [hl]; exact hc
theorem add_plain (b o n : Nat) : (⟨b, o, none⟩ : Addr).add n = ⟨b, o + n, none⟩ := by
  by_cases h : n = 0
  · subst h; simp [Addr.add]
  · simp [Addr.add, h]
theorem open_fields {H : Type} {enc : TypeId × Value → H} {P : Program} {w : World} {base : Nat} {spare : Nat → Bool} {held : Bool} {t e : TypeId} {fs : Array Field} {fuel : Nat} {cs : List Value} {x : DataW H × List MemPlace} (ht : P.underlying t = some (.slice e)) (he : P.underlying e = some (.struct fs))
    (hone : oneCellFields P fs = true) (hC : P.cellsOf e = fs.size) (h : DataW.trod enc P w base spare held fuel t cs = some x) :
    cs = [.slice none 0 0] ∨
    ∃ (a : Addr) (len cap : Nat), cs = [.slice (some a) len cap] ∧ len ≤ maxLen ∧
      ∀ i, i < len → ∃ n : Nat, ∀ (j : Nat) (f : Field), fs[j]? = some f → ∃ (v : Value) (y : DataW H × List MemPlace), w.cell? (a.add (i * fs.size + j)) = some v ∧ DataW.trod enc P w base spare held n f.type [v] = some y := by
  rcases open_slice ht h with h0 | ⟨a, len, cap, m, n, D, Pl, hcs, _, hl, hm, hmm, _, hi⟩
  · exact .inl h0.1
  · refine .inr ⟨a, len, cap, hcs, by omega, fun i him => ?_⟩
    obtain ⟨cs', hc, ht'⟩ := hi i (by rw [hmm]; split <;> omega)
    rw [hC] at hc
    obtain ⟨ys, n', _, _, hlen, hyl, hf⟩ := DataW.trod_struct he ht'
    obtain ⟨_, _, hat⟩ := World.cells?_some hc
    refine ⟨n', fun j f hj => ?_⟩
    obtain ⟨ho, hk⟩ := hone_of hone j f hj
    have hjl : j < fs.size := (Array.getElem?_eq_some_iff.1 hj).1
    have hcell := hat j hjl
    have hv : cs'[j]? = some (cs'[j]'(by omega)) := List.getElem?_eq_getElem (by omega)
    have h1 := hf j f hj
    rw [ho, hk] at h1
    have hone' : (cs'.drop j).take 1 = [cs'[j]'(by omega)] := by
      rw [List.drop_eq_getElem_cons (by omega)]
      rfl
    rw [hone'] at h1
    have hys : ys[j]? = some (ys[j]'(by omega)) := List.getElem?_eq_getElem (by omega)
    refine ⟨_, _, ?_, h1.trans hys⟩
    rw [← Go.Deep.add_add, hcell, hv]
theorem own : ownKnob Tryz.prog.godebug = none := by kernel_rfl
theorem laidOut : laidOutB Tryz.prog = true := by kernel_rfl
end Go.Proofs.YtlehcaacfgocaaaGreat
namespace Go.Proofs.YtlehcaacfgocaaaGreat
set_option linter.unusedVariables false
open Go.Joins Go.ChangeShapes Go.WideShapes Go.ChangeAt Go.RowKit Go.Deep
end Go.Proofs.YtlehcaacfgocaaaGreat
namespace Go.Proofs.YtlehcaacfgocaaaGreat
set_option linter.unusedVariables false
open Go.Joins Go.ChangeShapes Go.WideShapes Go.ChangeAt Go.RowKit Go.Deep
set_option maxRecDepth 100000 in
theorem open_cmds_in {H : Type} {enc : TypeId × Value → H} {W : World} {base : Nat} {spare : Nat → Bool} {held : Bool} {fuel : Nat} {v : Value} {x : DataW H × List MemPlace} (hf : DataW.trod enc Tryz.prog W base spare held fuel 46 [v] = some x) :
    ∃ cs : List C7, Sl W v cs ∧ cs.length ≤ 9223372036854775807 := by
  rcases open_fields Tryz.underlying46 Tryz.underlying45 (by kernel_rfl) (by kernel_rfl) hf with h0 | ⟨a, len, cap, hcs, hm, hi⟩
  · obtain rfl := (List.cons.inj h0).1
    exact ⟨[], ⟨0, 0, 0, none, rfl, fun _ => rfl, fun h => absurd h (by simp), fun j c hc => by simp at hc, fun h => absurd h (by simp)⟩, by simp⟩
  · obtain rfl := (List.cons.inj hcs).1
    obtain ⟨cs, hl, hp⟩ := list_of (n := len) (P := fun i c => ∀ (f : Nat) u, c.cells[f]? = some u → W.cell? (a.add (i * 7 + f)) = some u) fun i hlt => by
      obtain ⟨n, hf⟩ := hi i hlt
      obtain ⟨v0, y0, g0, t0⟩ := hf 0 _ rfl
      obtain ⟨v1, y1, g1, t1⟩ := hf 1 _ rfl
      obtain ⟨v2, y2, g2, t2⟩ := hf 2 _ rfl
      obtain ⟨v3, y3, g3, t3⟩ := hf 3 _ rfl
      obtain ⟨v4, y4, g4, t4⟩ := hf 4 _ rfl
      obtain ⟨v5, y5, g5, t5⟩ := hf 5 _ rfl
      obtain ⟨v6, y6, g6, t6⟩ := hf 6 _ rfl
      obtain ⟨z0, e0, _, _⟩ := DataW.trod_int Tryz.underlying3 t0
      obtain ⟨z1, e1, _, _⟩ := DataW.trod_int Tryz.underlying42 t1
      obtain ⟨z2, e2, _, _⟩ := DataW.trod_int Tryz.underlying3 t2
      obtain ⟨z3, e3, _, _⟩ := DataW.trod_int Tryz.underlying3 t3
      obtain ⟨z4, e4, _, _⟩ := DataW.trod_int Tryz.underlying43 t4
      obtain ⟨z5, e5, _, _⟩ := DataW.trod_int Tryz.underlying3 t5
      obtain ⟨z6, e6, _, _⟩ := DataW.trod_int Tryz.underlying3 t6
      simp only [List.cons.injEq, and_true] at e0 e1 e2 e3 e4 e5 e6
      subst e0 e1 e2 e3 e4 e5 e6
      refine ⟨⟨z0, z1, z2, z3, z4, z5, z6⟩, fun f u hu => ?_⟩
      match f, hu with
      | 0, hu => obtain rfl := Option.some.inj hu; exact g0
      | 1, hu => obtain rfl := Option.some.inj hu; exact g1
      | 2, hu => obtain rfl := Option.some.inj hu; exact g2
      | 3, hu => obtain rfl := Option.some.inj hu; exact g3
      | 4, hu => obtain rfl := Option.some.inj hu; exact g4
      | 5, hu => obtain rfl := Option.some.inj hu; exact g5
      | 6, hu => obtain rfl := Option.some.inj hu; exact g6
      | _ + 7, hu => cases hu
    have hfirst : 0 < cs.length → a.spot = none ∧ a.block < W.heap.size := fun h0 => by
      have hc : cs[0]? = some cs[0] := List.getElem?_eq_getElem h0
      have := hp 0 _ hc 0 _ rfl
      exact ⟨by simpa [Addr.add] using World.cell?_spot this, by simpa [Addr.add] using World.block_lt_of_cell? W _ this⟩
    obtain ⟨b, o, spot⟩ := a
    refine ⟨cs, ⟨b, o, cap, some ⟨b, o, spot⟩, by rw [hl], (fun e => by cases e), fun h0 => ?_, fun j c hc f u hu => ?_, fun h0 => (hfirst h0).2⟩, ?_⟩
    · rw [show spot = none from (hfirst h0).1]
    · have h0 : 0 < cs.length := by have := (List.getElem?_eq_some_iff.1 hc).1; omega
      have := hp j c hc f u hu
      rw [show spot = none from (hfirst h0).1] at this
      rw [add_plain] at this
      exact this
    · rw [hl]; exact Nat.le_trans hm (by decide)
end Go.Proofs.YtlehcaacfgocaaaGreat
namespace Go.Proofs.YtlehcaacfgocaaaGreat
set_option linter.unusedVariables false
open Go.Joins Go.ChangeShapes Go.WideShapes Go.ChangeAt Go.RowKit Go.Deep
theorem cellsC : Tryz.prog.cellsOf 45 = 7 := by kernel_rfl
theorem cellsV : Tryz.prog.cellsOf 48 = 2 := by kernel_rfl
theorem cellsI : Tryz.prog.cellsOf 3 = 1 := by kernel_rfl
theorem cellsK : Tryz.prog.cellsOf 42 = 1 := by kernel_rfl
theorem cellsD : Tryz.prog.cellsOf 43 = 1 := by kernel_rfl
theorem cellsB : Tryz.prog.cellsOf 4 = 1 := by kernel_rfl
theorem cellsS : Tryz.prog.cellsOf 46 = 1 := by kernel_rfl
section
variable {H : Type} {enc : TypeId × Value → H} {W : World} {base : Nat} {spare : Nat → Bool} {held : Bool} {fuel : Nat}
theorem struct_in {P : Program} {t : TypeId} {fs : Array Field} {cs : List Value} {x : DataW H × List MemPlace} (ht : P.underlying t = some (.struct fs)) (h : DataW.trod enc P W base spare held fuel t cs = some x) :
    cs.length = P.cellsOf t ∧ ∃ n, ∀ (i : Nat) (f : Field), fs[i]? = some f → ∃ y, DataW.trod enc P W base spare held n f.type ((cs.drop f.offset).take (P.cellsOf f.type)) = some y := by
  obtain ⟨xs, n, _, _, hl, hx, hf⟩ := DataW.trod_struct ht h
  refine ⟨hl, n, fun i f hi => ?_⟩
  have hlt : i < fs.size := (Array.getElem?_eq_some_iff.1 hi).1
  exact ⟨xs[i]'(by omega), (hf i f hi).trans (List.getElem?_eq_getElem (by omega))⟩
theorem int_in {t : TypeId} {c : Value} {x : DataW H × List MemPlace} (ht : Tryz.prog.underlying t = some (.int .i64)) (h : DataW.trod enc Tryz.prog W base spare held fuel t [c] = some x) : ∃ z, c = .int .i64 z := by
  obtain ⟨z, e, _, _⟩ := DataW.trod_int ht h
  exact ⟨z, (List.cons.inj e).1⟩
set_option maxRecDepth 100000 in
theorem cmd_in {cs : List Value} {x : DataW H × List MemPlace} (h : DataW.trod enc Tryz.prog W base spare held fuel 45 cs = some x) : ∃ c : C7, cs = c.cells := by
  obtain ⟨hl, n, hf⟩ := struct_in Tryz.underlying45 h
  rw [cellsC] at hl
  match cs, hl with
  | [c0, c1, c2, c3, c4, c5, c6], _ =>
    obtain ⟨y0, h0⟩ := hf 0 _ rfl
    obtain ⟨y1, h1⟩ := hf 1 _ rfl
    obtain ⟨y2, h2⟩ := hf 2 _ rfl
    obtain ⟨y3, h3⟩ := hf 3 _ rfl
    obtain ⟨y4, h4⟩ := hf 4 _ rfl
    obtain ⟨y5, h5⟩ := hf 5 _ rfl
    obtain ⟨y6, h6⟩ := hf 6 _ rfl
    simp only [List.getElem_toArray, List.getElem_cons_succ, List.getElem_cons_zero, cellsI, cellsK, cellsD, List.drop_succ_cons, List.drop_zero, List.take_succ_cons, List.take_zero] at h0 h1 h2 h3 h4 h5 h6
    obtain ⟨z0, rfl⟩ := int_in Tryz.underlying3 h0
    obtain ⟨z1, rfl⟩ := int_in Tryz.underlying42 h1
    obtain ⟨z2, rfl⟩ := int_in Tryz.underlying3 h2
    obtain ⟨z3, rfl⟩ := int_in Tryz.underlying3 h3
    obtain ⟨z4, rfl⟩ := int_in Tryz.underlying43 h4
    obtain ⟨z5, rfl⟩ := int_in Tryz.underlying3 h5
    obtain ⟨z6, rfl⟩ := int_in Tryz.underlying3 h6
    exact ⟨⟨z0, z1, z2, z3, z4, z5, z6⟩, rfl⟩
theorem sv_of {v : Value} {l : List C7} (h : Sl W v l) : ∃ p : Sv, v = p.v ∧ Sl W p.v l := by
  obtain ⟨_, _, cap, a, rfl, _⟩ := id h
  exact ⟨⟨a, l.length, cap⟩, rfl, h⟩
set_option maxRecDepth 100000 in
theorem value_in {cs : List Value} {x : DataW H × List MemPlace} (h : DataW.trod enc Tryz.prog W base spare held fuel 48 cs = some x) : ∃ (t : Int) (p : Sv) (l : List C7), cs = [.int .i64 t, p.v] ∧ Sl W p.v l := by
  obtain ⟨hl, n, hf⟩ := struct_in Tryz.underlying48 h
  rw [cellsV] at hl
  match cs, hl with
  | [c0, c1], _ =>
    obtain ⟨y0, h0⟩ := hf 0 _ rfl
    obtain ⟨y1, h1⟩ := hf 1 _ rfl
    simp only [List.getElem_toArray, List.getElem_cons_succ, List.getElem_cons_zero, cellsI, cellsS, List.drop_succ_cons, List.drop_zero, List.take_succ_cons, List.take_zero] at h0 h1
    obtain ⟨z0, rfl⟩ := int_in Tryz.underlying3 h0
    obtain ⟨l, hs, _⟩ := open_cmds_in h1
    obtain ⟨p, rfl, hp⟩ := sv_of hs
    exact ⟨z0, p, l, rfl, hp⟩
end
theorem list_of' {α : Type} {n : Nat} {P : Nat → α → Prop} (h : ∀ i, i < n → ∃ c, P i c) : ∃ cs : List α, cs.length = n ∧ ∀ (j : Nat) c, cs[j]? = some c → P j c := by
  induction n with
  | zero => exact ⟨[], rfl, fun j c hc => by simp at hc⟩
  | succ n ih =>
    obtain ⟨cs, hl, hp⟩ := ih fun i hi => h i (by omega)
    obtain ⟨c, hc⟩ := h n (by omega)
    refine ⟨cs ++ [c], by simp [hl], fun j d hd => ?_⟩
    by_cases hj : j < cs.length
    · rw [List.getElem?_append_left hj] at hd; exact hp j d hd
    · have hlen := (List.getElem?_eq_some_iff.1 hd).1
      simp at hlen
      obtain rfl : j = cs.length := by omega
      simp at hd
      subst hd
      rw [hl]; exact hc
end Go.Proofs.YtlehcaacfgocaaaGreat
namespace Go.Proofs.YtlehcaacfgocaaaGreat
set_option linter.unusedVariables false
open Go.Joins Go.ChangeShapes Go.WideShapes Go.ChangeAt Go.RowKit Go.Deep
theorem cellsMs : Tryz.prog.cellsOf 50 = 20 := by kernel_rfl
theorem cellsSo : Tryz.prog.cellsOf 41 = 1 := by kernel_rfl
section
variable {H : Type} {enc : TypeId × Value → H} {W : World} {base : Nat} {spare : Nat → Bool} {held : Bool} {fuel : Nat}
set_option maxRecDepth 100000 in
theorem cmd_wf {cs : List Value} {x : DataW H × List MemPlace} {z : Int} (h : DataW.trod enc Tryz.prog W base spare held fuel 45 cs = some x) (hz : cs[0]? = some (.int .i64 z)) : (Lit.int .i64 z).wf = true := by
  obtain ⟨hl, n, hf⟩ := struct_in Tryz.underlying45 h
  rw [cellsC] at hl
  obtain ⟨y1, h1⟩ := hf 0 _ rfl
  simp only [List.getElem_toArray, List.getElem_cons_zero, cellsI, List.drop_zero] at h1
  obtain ⟨z', e, _, hw⟩ := DataW.trod_int Tryz.underlying3 h1
  match cs, hl, hz with
  | c0 :: r, _, hz =>
    have e1 : c0 = .int .i64 z' := by simpa using e
    have e2 : c0 = .int .i64 z := by simpa using hz
    rw [e1] at e2
    cases e2
    exact hw
def Ms.inW (w : World) (m : Ms) : Prop := m.at w ∧ (Lit.int .i64 m.m.c.i).wf = true
set_option maxRecDepth 100000 in
theorem msg_in {cs : List Value} {x : DataW H × List MemPlace} (h : DataW.trod enc Tryz.prog W base spare held fuel 50 cs = some x) : ∃ m : Ms, cs = m.m.list ∧ m.inW W := by
  obtain ⟨hl, n, hf⟩ := struct_in Tryz.underlying50 h
  rw [cellsMs] at hl
  match cs, hl with
  | [c0, c1, c2, c3, c4, c5, c6, c7, c8, c9, c10, c11, c12, c13, c14, c15, c16, c17, c18, c19], _ =>
    obtain ⟨y0, h0⟩ := hf 0 _ rfl
    obtain ⟨y1, h1⟩ := hf 1 _ rfl
    obtain ⟨y2, h2⟩ := hf 2 _ rfl
    obtain ⟨y3, h3⟩ := hf 3 _ rfl
    obtain ⟨y4, h4⟩ := hf 4 _ rfl
    obtain ⟨y5, h5⟩ := hf 5 _ rfl
    obtain ⟨y6, h6⟩ := hf 6 _ rfl
    obtain ⟨y7, h7⟩ := hf 7 _ rfl
    obtain ⟨y8, h8⟩ := hf 8 _ rfl
    obtain ⟨y9, h9⟩ := hf 9 _ rfl
    obtain ⟨y10, h10⟩ := hf 10 _ rfl
    simp only [List.getElem_toArray, List.getElem_cons_succ, List.getElem_cons_zero, cellsI, cellsC, cellsV, cellsB, cellsSo, List.drop_succ_cons, List.drop_zero, List.take_succ_cons, List.take_zero] at h0 h1 h2 h3 h4 h5 h6 h7 h8 h9 h10
    obtain ⟨z0, rfl⟩ := int_in Tryz.underlying41 h0
    obtain ⟨z1, rfl⟩ := int_in Tryz.underlying3 h1
    obtain ⟨z2, rfl⟩ := int_in Tryz.underlying3 h2
    obtain ⟨z3, rfl⟩ := int_in Tryz.underlying3 h3
    have hwf := fun z hz => cmd_wf (z := z) h4 hz
    obtain ⟨c, hc⟩ := cmd_in h4
    obtain ⟨t5, p5, l5, e5, s5⟩ := value_in h5
    obtain ⟨b6, e6, _⟩ := DataW.trod_bool Tryz.underlying4 h6
    obtain ⟨z7, rfl⟩ := int_in Tryz.underlying3 h7
    obtain ⟨z8, rfl⟩ := int_in Tryz.underlying3 h8
    obtain ⟨t9, p9, l9, e9, s9⟩ := value_in h9
    obtain ⟨t10, p10, l10, e10, s10⟩ := value_in h10
    simp only [C7.cells, List.cons.injEq, and_true] at hc e5 e6 e9 e10
    obtain ⟨rfl, rfl, rfl, rfl, rfl, rfl, rfl⟩ := hc
    obtain ⟨rfl, rfl⟩ := e5
    subst e6
    obtain ⟨rfl, rfl⟩ := e9
    obtain ⟨rfl, rfl⟩ := e10
    exact ⟨⟨⟨z0, z1, z2, z3, c, t5, p5, b6, z7, z8, t9, p9, t10, p10⟩, l5, l9, l10⟩, rfl, ⟨s5, s9, s10⟩, hwf c.i rfl⟩
end
set_option maxRecDepth 100000 in
theorem open_msgs {H : Type} {enc : TypeId × Value → H} {W : World} {base : Nat} {spare : Nat → Bool} {held : Bool} {b0 : Nat} {v : Value} {d : DataW H} {p : List MemPlace} (hv : Value.okWide Tryz.prog W .any b0 24 v) (h : DataW.Trod enc Tryz.prog W base spare held 24 v d p) :
    ∃ xs : List Ms, SlM W v (mgs xs) ∧ (∀ a ∈ xs, a.inW W) ∧ xs.length ≤ 9223372036854775807 := by
  obtain ⟨a0, n0, c0, rfl⟩ := okWide_slice Tryz.underlying24 hv
  obtain ⟨fuel, hf⟩ := h
  rcases open_slice Tryz.underlying24 hf with h0 | ⟨a, len, cap, m, n, D, Pl, hcs, _, hl, hm, hmm, _, hi⟩
  · have h0 := h0.1
    simp [Value.cells] at h0
    obtain ⟨rfl, rfl, rfl⟩ := h0
    exact ⟨[], SlG.nil _ _ _, fun x hx => by simp at hx, by simp⟩
  · simp [Value.cells] at hcs
    obtain ⟨rfl, rfl, rfl⟩ := hcs
    obtain ⟨xs, hal, hp⟩ := list_of' (n := n0) (P := fun i (x : Ms) => (∀ (f : Nat) u, x.m.list[f]? = some u → W.cell? (a.add (i * 20 + f)) = some u) ∧ x.inW W) fun i hlt => by
      obtain ⟨cs', hc, ht'⟩ := hi i (by rw [hmm]; split <;> omega)
      rw [cellsMs] at hc
      obtain ⟨x, rfl, hx⟩ := msg_in ht'
      obtain ⟨_, _, hat⟩ := World.cells?_some hc
      refine ⟨x, fun f u hu => ?_, hx⟩
      have hlt := (List.getElem?_eq_some_iff.1 hu).1
      have q := hat f (by rw [Mg.len] at hlt; exact hlt)
      rw [Go.Deep.add_add] at q
      rw [q]; exact hu
    have hlm : (mgs xs).length = xs.length := by unfold mgs; rw [List.length_map]
    have hfirst : 0 < xs.length → a.spot = none ∧ a.block < W.heap.size := fun h0 => by
      have hc : xs[0]? = some xs[0] := List.getElem?_eq_getElem h0
      have := (hp 0 _ hc).1 0 _ rfl
      exact ⟨by simpa [Addr.add] using World.cell?_spot this, by simpa [Addr.add] using World.block_lt_of_cell? W _ this⟩
    obtain ⟨b, o, spot⟩ := a
    refine ⟨xs, ⟨b, o, c0, some ⟨b, o, spot⟩, by rw [hlm, hal], fun h0 => ?_, fun j e hj f u hu => ?_, fun h0 => ?_⟩, fun x hx => ?_, ?_⟩
    · rw [show spot = none from (hfirst (by rw [hlm] at h0; exact h0)).1]
    · have h0 : 0 < xs.length := by have := (List.getElem?_eq_some_iff.1 hj).1; omega
      obtain ⟨x, hx, rfl⟩ : ∃ x, xs[j]? = some x ∧ x.m = e := by
        unfold mgs at hj; rw [List.getElem?_map] at hj
        rcases hx : xs[j]? with _ | x
        · rw [hx] at hj; cases hj
        · rw [hx] at hj; exact ⟨x, rfl, Option.some.inj hj⟩
      have := (hp j x hx).1 f u hu
      rw [show spot = none from (hfirst h0).1, add_plain] at this
      rw [← Nat.add_assoc] at this
      exact this
    · exact (hfirst (by rw [hlm] at h0; exact h0)).2
    · obtain ⟨j, hj⟩ := List.getElem?_of_mem hx
      exact (hp j x hj).2
    · rw [hal]; exact Nat.le_trans (Nat.le_trans hl hm) (by decide)
theorem sl_lowV {w : World} {v : Value} {cs : List C7} (h : Sl w v cs) : lowV (Bd.mk1 w.heap.size) v cs := fun ad n c e h0 => by
  obtain ⟨b, o, cap, a, e2, hn, ha, hc, hb⟩ := h
  rw [e] at e2
  injection e2 with e3 e4 e5
  rw [ha h0] at e3
  injection e3 with e3
  rw [e3]
  exact hb h0
theorem Ms.at.lowB {w : World} {m : Ms} (h : m.at w) : m.low (Bd.mk1 w.heap.size) := ⟨sl_lowV h.1, sl_lowV h.2.1, sl_lowV h.2.2⟩
end Go.Proofs.YtlehcaacfgocaaaGreat
namespace Go.Proofs.YtlehcaacfgocaaaGreat
set_option linter.unusedVariables false
open Go.RowKit
open Go.Lib (hid)
def backB (a x : Mg) : Bool := decide (a.tt = x.fr) && a.c.same x.c
theorem thru_sub (nd : Int) : ∀ (ws : List Ms) (s : Sd), (thruF nd s ws).2.1.length ≤ ws.length
  | [], s => Nat.le_refl _
  | m :: ws, s => by
    unfold thruF
    split
    · exact Nat.le_refl _
    · have := thru_sub nd ws (ansD nd s m).1
      dsimp only
      split
      · simp; exact this
      · simp; omega
theorem handle_len (nd : Int) (s : Sd) (ws : List Ms) (m : Ms) : (handleF nd s ws m).2.1.length ≤ ws.length + 1 := by
  unfold handleF
  split
  · have key : (answerT nd (readyS s m) ws m (lkE (readyS s m).xs m.m.c.i)).2.1.length ≤ ws.length + 1 := by
      unfold answerT
      split
      · exact Nat.le_succ _
      · split
        · exact Nat.le_succ _
        · unfold takeF
          split
          · unfold proposeF
            dsimp only
            split
            · unfold waitF
              have := List.length_filter_le (fun x : Ms => !delB m.m x.m) ws
              simp; omega
            · exact Nat.le_succ _
          · split
            · exact Nat.le_succ _
            · split
              · exact Nat.le_succ _
              · unfold settleF
                split
                · split
                  · exact Nat.le_succ_of_le (thru_sub _ _ _)
                  · exact Nat.le_succ _
                · exact Nat.le_succ_of_le (thru_sub _ _ _)
    unfold overF
    split
    · exact key
    · exact key
  · exact Nat.le_succ _
theorem dec_alen (nd : Int) (s : Sd) (m : Ms) (y : En) : (decideF nd s m y).2.length ≤ 1 := by
  unfold decideF refuseF agreeF
  repeat' split
  all_goals simp
theorem ansD_alen (nd : Int) (s : Sd) (m : Ms) : (ansD nd s m).2.length ≤ 1 := by
  unfold ansD answerF
  split
  · simp
  · split
    · simp
    · exact dec_alen _ _ _ _
theorem thru_alen (nd : Int) : ∀ (ws : List Ms) (s : Sd), (thruF nd s ws).2.2.length ≤ ws.length
  | [], s => Nat.le_refl _
  | m :: ws, s => by
    unfold thruF
    split
    · simp
    · have := thru_alen nd ws (ansD nd s m).1
      have := ansD_alen nd s m
      simp; omega
theorem handle_alen (nd : Int) (s : Sd) (ws : List Ms) (m : Ms) : (handleF nd s ws m).2.2.length ≤ ws.length + 1 := by
  unfold handleF
  split
  · have key : (answerT nd (readyS s m) ws m (lkE (readyS s m).xs m.m.c.i)).2.2.length ≤ ws.length + 1 := by
      unfold answerT
      split
      · simp
      · split
        · simp
        · unfold takeF
          split
          · unfold proposeF
            have := dec_alen nd (putD (readyS s m) (propY m (lkE (readyS s m).xs m.m.c.i))) m (propY m (lkE (readyS s m).xs m.m.c.i))
            dsimp only; omega
          · split
            · unfold prepareF; dsimp only; split <;> simp
            · split
              · unfold acceptF; split <;> simp
              · unfold settleF
                split
                · split
                  · exact Nat.le_succ_of_le (thru_alen _ _ _)
                  · simp
                · exact Nat.le_succ_of_le (thru_alen _ _ _)
    unfold overF
    split
    · simp
    · exact key
  · simp
theorem handle_has {nd : Int} {s : Sd} {ws : List Ms} {m : Ms} (h : Iv s ws) (hsh : m.short 1024) (hne : (handleF nd s ws m).2.2 ≠ []) : hasE (handleF nd s ws m).1.xs m.m.c.i = true := by
  by_cases ht : TakenP s m
  · rw [handle_is ht]
    obtain ⟨h1, h2, h3, h4⟩ := ready_iv h ht.2.2.2
    exact ((overP (answer_p (nd := nd) h1 hsh ht.2.1 ht.2.2.1 h3 h4)).gr _ h3).1
  · exfalso
    apply hne
    unfold handleF
    rw [if_neg ht]
structure KeepA (nd : Int) (s' : Sd) (ws : List Ms) (m o : Ms) (e : Ev) : Prop where
  fr : o.m.fr = nd
  bk : (backB o.m m.m || (mgs ws).any (backB o.m)) = true
  pr : o.m.so ≠ 7 → ¬ e.pr < o.m.bal
  acc : o.m.so = 6 → e.ab = o.m.bal ∧ e.xt = m.m.vt
  okay : o.m.so = 1 → ¬ o.m.vt < e.lo ∧ ¬ e.hi < o.m.vt
  stab : o.m.so = 7 → e.dn = true
  rej : o.m.so = 8 → ¬ o.m.ab ≤ o.m.bal
theorem keep_sum {nd : Int} {s : Sd} {ws : List Ms} {m o : Ms} (h : Iv s ws) (hsh : m.short 1024) (ho : o.an ∈ (handleF nd s ws m).2.2) :
    hasE (handleF nd s ws m).1.xs o.m.c.i = true ∧ KeepA nd (handleF nd s ws m).1 ws m o (lookE (handleF nd s ws m).1.xs o.m.c.i) := by
  have hp := handle_p (nd := nd) h hsh
  have hhm := handle_has (nd := nd) h hsh (List.ne_nil_of_mem ho)
  obtain ⟨x, hx, hA, h6⟩ := hp.ans _ ho
  have hc : o.m.c = x.m.c := hA.c
  have hh : hasE (handleF nd s ws m).1.xs x.m.c.i = true := by
    rcases List.mem_cons.1 hx with rfl | hx
    · exact hhm
    · exact (hp.gr _ (h.wt x hx).has).1
  rw [← lkE_e]
  have hb : backB o.m x.m = true := by
    unfold backB
    rw [C7.same_iff.2 hc, decide_eq_true (show o.m.tt = x.m.fr from hA.tt)]; rfl
  rw [hc]
  refine ⟨hh, ⟨hA.fr, ?_, fun h7 => ?_, fun h0 => ?_, fun h1 => ?_, fun h7 => hA.stab h7, fun h8 => ?_⟩⟩
  · rcases List.mem_cons.1 hx with rfl | hx
    · rw [hb]; rfl
    · have : (mgs ws).any (backB o.m) = true := List.any_eq_true.2 ⟨x.m, List.mem_map.2 ⟨x, hx, rfl⟩, hb⟩
      rw [this]; simp
  · obtain ⟨e1, e2⟩ := hA.bal h7
    have e1' : o.m.bal = x.m.bal := e1
    omega
  · obtain ⟨rfl, _, e3, e4⟩ := h6 h0
    exact ⟨e3, e4⟩
  · obtain ⟨o1, o2, o3, o4⟩ := hA.okay h1
    have o1' : o.m.vt = x.m.vt := o1
    omega
  · have := hA.rej h8
    have e : o.m.bal < o.m.ab := this
    omega
end Go.Proofs.YtlehcaacfgocaaaGreat
namespace Go.Proofs.YtlehcaacfgocaaaGreat
set_option linter.unusedVariables false
open Go.RowKit
open Go.Lib (hid)
structure Sa where
  c : C7
  t : Int
  p : List C7
def FairP (xs : List En) (was now : Sa) : Prop :=
  was.c.i = now.c.i ∨ was.c.s ≠ now.c.s ∨
  ((lkE xs was.c.i).e.dn = true ∧ ((now.t < (lkE xs was.c.i).e.vt ∧ foundB (lkE xs was.c.i).v now.c.i = true) ∨ ((lkE xs was.c.i).e.vt < now.t ∧ foundB now.p was.c.i = true) ∨ (lkE xs was.c.i).e.vt = now.t)) ∨
  ((lkE xs was.c.i).e.dn = false ∧ ((was.t < now.t ∧ foundB now.p was.c.i = true) ∨ was.t = now.t))
def firstB (l : List Sa) (i t : Int) : Bool := l.all fun a => !(decide (a.c.i = i) && decide (a.t = t))
def sayF (ask : An → Option (List C7)) (l : List Sa) (a : An) : List Sa := if a.so = 1 ∧ firstB l a.c.i a.vt = true then l ++ [⟨a.c, a.vt, (ask a).getD [] ++ a.vl⟩] else l
def sayAll (ask : An → Option (List C7)) (l : List Sa) (es : List An) : List Sa := es.foldl (sayF ask) l
def SayOk (ask : An → Option (List C7)) (xs : List En) : List Sa → List An → Prop
  | _, [] => True
  | l, a :: es => (a.so = 1 → firstB l a.c.i a.vt = true → (ask a).isSome = true ∧ ∀ was ∈ l, FairP xs was ⟨a.c, a.vt, (ask a).getD [] ++ a.vl⟩) ∧ SayOk ask xs (sayF ask l a) es
structure SInv (xs : List En) (l : List Sa) : Prop where
  at' : ∀ a ∈ l, hasE xs a.c.i = true ∧ (lkE xs a.c.i).e.c = a.c ∧ (lkE xs a.c.i).e.lo ≠ 0 ∧ (lkE xs a.c.i).e.lo ≤ a.t ∧ a.t ≤ (lkE xs a.c.i).e.hi
  fs : ∀ i, hasE xs i = true → (lkE xs i).e.ft ≠ 0 → ∃ a ∈ l, a.c.i = i ∧ a.t = (lkE xs i).e.ft
theorem say_mem (ask : An → Option (List C7)) (l : List Sa) (a : An) : ∀ b ∈ l, b ∈ sayF ask l a := fun b hb => by unfold sayF; split; exact List.mem_append_left _ hb; exact hb
theorem say_has (ask : An → Option (List C7)) (l : List Sa) {a : An} (h : a.so = 1) : ∃ b ∈ sayF ask l a, b.c.i = a.c.i ∧ b.t = a.vt := by
  unfold sayF
  by_cases hf : firstB l a.c.i a.vt = true
  · rw [if_pos ⟨h, hf⟩]; exact ⟨_, List.mem_append_right _ List.mem_cons_self, rfl, rfl⟩
  · rw [if_neg (fun hh => hf hh.2)]
    refine Classical.byContradiction fun hn => hf ?_
    unfold firstB
    refine List.all_eq_true.2 fun b hb => ?_
    by_cases e1 : b.c.i = a.c.i
    · by_cases e2 : b.t = a.vt
      · exact absurd ⟨b, hb, e1, e2⟩ hn
      · simp [e2]
    · simp [e1]
structure DecS (xs ys : List En) (x : Ms) (es : List An) : Prop where
  ok : ∀ a ∈ es, a.so = 1 → (lkE xs x.m.c.i).e.ft = x.m.vt ∨ ((∀ i, hasE xs i = true → touchB (lkE xs i).e.c x.m.c = true → (lkE xs i).e.dn = true → x.m.vt < (lkE xs i).e.vt → foundB (lkE xs i).v x.m.c.i = true) ∧ (∀ i, hasE xs i = true → touchB (lkE xs i).e.c x.m.c = true → (lkE xs i).e.dn = false → (lkE xs i).e.hi ≤ x.m.vt) ∧ a.vl = minusL (predL xs x.m.c x.m.vt) x.v)
  ft : ∀ i, hasE ys i = true → (lkE ys i).e.ft ≠ 0 → (hasE xs i = true ∧ (lkE xs i).e.ft = (lkE ys i).e.ft) ∨ (∃ a ∈ es, a.so = 1 ∧ i = x.m.c.i ∧ (lkE ys i).e.ft = x.m.vt)
  one : es.length ≤ 1
theorem no_touch {xs : List En} {c : C7} {P : En → Bool} (h : ¬ 0 < (touchL xs c P).length) : ∀ i, hasE xs i = true → touchB (lkE xs i).e.c c = true → P (lkE xs i) = false := fun i h1 h2 => by
  rcases hp : P (lkE xs i) with _ | _
  · rfl
  · exfalso
    have : (lkE xs i).e.c ∈ touchL xs c P := mem_touch.2 ⟨i, h1, rfl, h2, hp⟩
    exact h (List.length_pos_of_mem this)
theorem decS_same {xs : List En} {x : Ms} {es : List An} (h : ∀ a ∈ es, a.so ≠ 1) (h1 : es.length ≤ 1) : DecS xs xs x es := ⟨fun a ha h1 => absurd h1 (h a ha), fun i hi h0 => .inl ⟨hi, rfl⟩, h1⟩
theorem dec_s {nd : Int} {s : Sd} {m : Ms} (hw : Wt s m) : DecS s.xs (decideF nd s m (lkE s.xs m.m.c.i)).1.xs m (decideF nd s m (lkE s.xs m.m.c.i)).2 := by
  have hv := (full_parts hw.full).1
  have hid' := (lkE_mem hw.has).2
  generalize hy : lkE s.xs m.m.c.i = y at hid' ⊢
  unfold decideF
  split
  · rename_i h1
    rw [Bool.and_eq_true] at h1
    have hvo := h1.1
    unfold votedB at hvo
    rw [Bool.and_eq_true, decide_eq_true_eq] at hvo
    exact ⟨fun a ha _ => .inl (by rw [hy]; exact hvo.1), fun i hi h0 => .inl ⟨hi, rfl⟩, by simp⟩
  · split
    · unfold refuseF
      simp only [fresh_xs]
      split
      · refine decS_same (fun a ha => ?_) (by simp)
        rw [List.mem_singleton] at ha; subst ha
        simp [backA]
      · exact decS_same (fun a ha => by cases ha) (by simp)
    · rename_i hk
      split
      · exact decS_same (fun a ha => by cases ha) (by simp)
      · rename_i hh
        unfold killsB at hk
        rw [Bool.or_eq_true, decide_eq_true_eq, not_or] at hk
        unfold holdB at hh
        rw [Bool.or_eq_true, decide_eq_true_eq, not_or] at hh
        have hK := no_touch hk.1
        have hH := no_touch hh.1
        unfold agreeF putD
        simp only
        have key : ∀ z : En, z.id = y.id → (z.e.ft = y.e.ft ∨ z.e.ft = m.m.vt) → DecS s.xs (s.xs ++ [z]) m [backA nd m { zA with so := 1, vt := m.m.vt, vl := moreL s.xs m, fl := votesB s.xs m y }] := by
          intro z hi hf
          have hzi : z.id = m.m.c.i := hi.trans hid'
          refine ⟨fun a ha _ => .inr ⟨fun i h1 h2 h3 h4 => ?_, fun i h1 h2 h3 => ?_, ?_⟩, fun i h1 h0 => ?_, by simp⟩
          · have := hK i h1 h2
            unfold killB at this
            rw [h3, decide_eq_true h4] at this
            simpa using this
          · have := hH i h1 h2
            simp only [holdsE] at this
            rw [h3] at this
            simpa using this
          · rw [List.mem_singleton] at ha; subst ha; rfl
          · rw [lk_snoc] at h0 ⊢
            rw [hs_snoc] at h1
            by_cases e : z.id = i
            · rw [if_pos e] at h0 ⊢
              rcases hf with hf | hf
              · exact .inl ⟨by rw [← e, hzi]; exact hw.has, by rw [← e, hzi, hy]; exact hf.symm⟩
              · exact .inr ⟨_, List.mem_singleton.2 rfl, by unfold backA; rfl, by rw [← e, hzi], hf⟩
            · rw [if_neg e] at h0 h1 ⊢
              exact .inl ⟨h1, rfl⟩
        split
        · exact key _ (vot_dn y hv).2.2 (.inr (vot_dn y hv).2.1)
        · exact key _ (res_dn y hv).2.2 (.inl (res_dn y hv).2.1)
theorem ans_s {nd : Int} {s : Sd} {m : Ms} (hw : Wt s m) : DecS s.xs (ansD nd s m).1.xs m (ansD nd s m).2 := by
  unfold ansD answerF
  split
  · refine decS_same (fun a ha => ?_) (by simp)
    rw [List.mem_singleton] at ha; subst ha; simp [backA]
  · split
    · refine decS_same (fun a ha => ?_) (by simp)
      rw [List.mem_singleton] at ha; subst ha; simp [backA]
    · exact dec_s hw
theorem found_app {a b : List C7} {i : Int} (h : foundB a i = true ∨ foundB b i = true) : foundB (a ++ b) i = true := by
  rcases h with h | h
  · obtain ⟨c, hc, hi⟩ := found_iff.1 h; exact found_iff.2 ⟨c, List.mem_append_left _ hc, hi⟩
  · obtain ⟨c, hc, hi⟩ := found_iff.1 h; exact found_iff.2 ⟨c, List.mem_append_right _ hc, hi⟩
theorem found_more {xs : List En} {c d : C7} {t : Int} {p : List C7} (h : d ∈ predL xs c t) : foundB (p ++ minusL (predL xs c t) p) d.i = true := by
  apply found_app
  by_cases hp : foundB p d.i = true
  · exact .inl hp
  · refine .inr (found_iff.2 ⟨d, ?_, rfl⟩)
    unfold minusL
    refine List.mem_filter.2 ⟨h, ?_⟩
    unfold foundB at hp
    cases hq : placeI p d.i with
    | none => rfl
    | some k => rw [hq] at hp; exact absurd rfl hp
theorem fair_d {xs zs : List En} {x : Ms} {l : List Sa} (hs : SInv xs l) (hg : Gr xs zs) (hn : Nd xs zs)
    (hK : ∀ i, hasE xs i = true → touchB (lkE xs i).e.c x.m.c = true → (lkE xs i).e.dn = true → x.m.vt < (lkE xs i).e.vt → foundB (lkE xs i).v x.m.c.i = true)
    (hH : ∀ i, hasE xs i = true → touchB (lkE xs i).e.c x.m.c = true → (lkE xs i).e.dn = false → (lkE xs i).e.hi ≤ x.m.vt) : ∀ was ∈ l, FairP zs was ⟨x.m.c, x.m.vt, x.v ++ minusL (predL xs x.m.c x.m.vt) x.v⟩ := fun was hm => by
  obtain ⟨h1, h2, h3, h4, h5⟩ := hs.at' was hm
  by_cases e1 : was.c.i = x.m.c.i
  · exact .inl e1
  by_cases e2 : was.c.s = x.m.c.s
  · refine .inr (.inr ?_)
    have ht : touchB (lkE xs was.c.i).e.c x.m.c = true := by rw [h2]; unfold touchB; simp [e1, e2]
    have hp : aheadE (lkE xs was.c.i).e x.m.vt = true → foundB (x.v ++ minusL (predL xs x.m.c x.m.vt) x.v) was.c.i = true := fun ha => by
      have : was.c ∈ predL xs x.m.c x.m.vt := mem_touch.2 ⟨was.c.i, h1, h2, by rw [← h2]; exact ht, ha⟩
      exact found_more this
    rcases hd : (lkE xs was.c.i).e.dn with _ | _
    · refine .inr ⟨?_, ?_⟩
      · rcases hz : (lkE zs was.c.i).e.dn with _ | _
        · rfl
        · rw [hn _ h1 hz] at hd; cases hd
      · have hh := hH _ h1 ht hd
        by_cases e : was.t = x.m.vt
        · exact .inr e
        · refine .inl ⟨by show was.t < x.m.vt; omega, hp ?_⟩
          unfold aheadE
          rw [hd, if_neg (by simp), decide_eq_false h3, decide_eq_true (by omega)]
          rfl
    · obtain ⟨g1, g2, g3⟩ := (hg _ h1).2.dn hd
      refine .inl ⟨g1, ?_⟩
      rw [g2, g3]
      by_cases a1 : x.m.vt < (lkE xs was.c.i).e.vt
      · exact .inl ⟨a1, hK _ h1 ht hd a1⟩
      · by_cases a2 : (lkE xs was.c.i).e.vt < x.m.vt
        · refine .inr (.inl ⟨a2, hp ?_⟩)
          unfold aheadE
          rw [hd, if_pos rfl, decide_eq_true a2]
        · exact .inr (.inr (by show (lkE xs was.c.i).e.vt = x.m.vt; omega))
  · exact .inr (.inl e2)
end Go.Proofs.YtlehcaacfgocaaaGreat
