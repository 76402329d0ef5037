/- From a row's condition to the walk: entries that came in. -/
import Derived.Test.YtpkkmfppdhjpkaaGreatGa27
import Derived.Test.YtpkkmfppdhjpkaaGreatGa47
namespace Go.Proofs.YtpkkmfppdhjpkaaGreat
set_option linter.unusedVariables false
open Go.Joins Go.ChangeShapes Go.WideShapes Go.ChangeAt Go.RowKit Go.Deep

theorem cellsC : Tryz.prog.cellsOf 39 = 7 := by kernel_rfl
theorem cellsV : Tryz.prog.cellsOf 42 = 2 := by kernel_rfl
theorem cellsI : Tryz.prog.cellsOf 3 = 1 := by kernel_rfl
theorem cellsK : Tryz.prog.cellsOf 36 = 1 := by kernel_rfl
theorem cellsD : Tryz.prog.cellsOf 37 = 1 := by kernel_rfl
theorem cellsB : Tryz.prog.cellsOf 4 = 1 := by kernel_rfl
theorem cellsS : Tryz.prog.cellsOf 40 = 1 := by kernel_rfl
theorem cellsE : Tryz.prog.cellsOf 48 = 19 := by kernel_rfl
section
variable {H : Type} {enc : TypeId × Value → H} {W : World} {base : Nat} {spare : Nat → Bool} {held : Bool} {fuel : Nat}
theorem struct_in {P : Program} {t : TypeId} {fs : Array Field} {cs : List Value} {x : DataW H × List MemPlace} (ht : P.underlying t = some (.struct fs)) (h : DataW.trod enc P W base spare held fuel t cs = some x) :
    cs.length = P.cellsOf t ∧ ∃ n, ∀ (i : Nat) (f : Field), fs[i]? = some f → ∃ y, DataW.trod enc P W base spare held n f.type ((cs.drop f.offset).take (P.cellsOf f.type)) = some y := by
  obtain ⟨xs, n, _, _, hl, hx, hf⟩ := DataW.trod_struct ht h
  refine ⟨hl, n, fun i f hi => ?_⟩
  have hlt : i < fs.size := (Array.getElem?_eq_some_iff.1 hi).1
  exact ⟨xs[i]'(by omega), (hf i f hi).trans (List.getElem?_eq_getElem (by omega))⟩
theorem int_in {t : TypeId} {c : Value} {x : DataW H × List MemPlace} (ht : Tryz.prog.underlying t = some (.int .i64)) (h : DataW.trod enc Tryz.prog W base spare held fuel t [c] = some x) : ∃ z, c = .int .i64 z := by
  obtain ⟨z, e, _, _⟩ := DataW.trod_int ht h
  exact ⟨z, (List.cons.inj e).1⟩
set_option maxRecDepth 100000 in
theorem cmd_in {cs : List Value} {x : DataW H × List MemPlace} (h : DataW.trod enc Tryz.prog W base spare held fuel 39 cs = some x) : ∃ c : C7, cs = c.cells := by
  obtain ⟨hl, n, hf⟩ := struct_in Tryz.underlying39 h
  rw [cellsC] at hl
  match cs, hl with
  | [c0, c1, c2, c3, c4, c5, c6], _ =>
    obtain ⟨y0, h0⟩ := hf 0 _ rfl
    obtain ⟨y1, h1⟩ := hf 1 _ rfl
    obtain ⟨y2, h2⟩ := hf 2 _ rfl
    obtain ⟨y3, h3⟩ := hf 3 _ rfl
    obtain ⟨y4, h4⟩ := hf 4 _ rfl
    obtain ⟨y5, h5⟩ := hf 5 _ rfl
    obtain ⟨y6, h6⟩ := hf 6 _ rfl
    simp only [List.getElem_toArray, List.getElem_cons_succ, List.getElem_cons_zero, cellsI, cellsK, cellsD, List.drop_succ_cons, List.drop_zero, List.take_succ_cons, List.take_zero] at h0 h1 h2 h3 h4 h5 h6
    obtain ⟨z0, rfl⟩ := int_in Tryz.underlying3 h0
    obtain ⟨z1, rfl⟩ := int_in Tryz.underlying36 h1
    obtain ⟨z2, rfl⟩ := int_in Tryz.underlying3 h2
    obtain ⟨z3, rfl⟩ := int_in Tryz.underlying3 h3
    obtain ⟨z4, rfl⟩ := int_in Tryz.underlying37 h4
    obtain ⟨z5, rfl⟩ := int_in Tryz.underlying3 h5
    obtain ⟨z6, rfl⟩ := int_in Tryz.underlying3 h6
    exact ⟨⟨z0, z1, z2, z3, z4, z5, z6⟩, rfl⟩
theorem sv_of {v : Value} {l : List C7} (h : Sl W v l) : ∃ p : Sv, v = p.v ∧ Sl W p.v l := by
  obtain ⟨_, _, cap, a, rfl, _⟩ := id h
  exact ⟨⟨a, l.length, cap⟩, rfl, h⟩
set_option maxRecDepth 100000 in
theorem value_in {cs : List Value} {x : DataW H × List MemPlace} (h : DataW.trod enc Tryz.prog W base spare held fuel 42 cs = some x) : ∃ (t : Int) (p : Sv) (l : List C7), cs = [.int .i64 t, p.v] ∧ Sl W p.v l := by
  obtain ⟨hl, n, hf⟩ := struct_in Tryz.underlying42 h
  rw [cellsV] at hl
  match cs, hl with
  | [c0, c1], _ =>
    obtain ⟨y0, h0⟩ := hf 0 _ rfl
    obtain ⟨y1, h1⟩ := hf 1 _ rfl
    simp only [List.getElem_toArray, List.getElem_cons_succ, List.getElem_cons_zero, cellsI, cellsS, List.drop_succ_cons, List.drop_zero, List.take_succ_cons, List.take_zero] at h0 h1
    obtain ⟨z0, rfl⟩ := int_in Tryz.underlying3 h0
    obtain ⟨l, hs, _⟩ := open_cmds_in h1
    obtain ⟨p, rfl, hp⟩ := sv_of hs
    exact ⟨z0, p, l, rfl, hp⟩
set_option maxRecDepth 100000 in
theorem ent_in {cs : List Value} {x : DataW H × List MemPlace} (h : DataW.trod enc Tryz.prog W base spare held fuel 48 cs = some x) : ∃ y : En, cs = y.e.list ∧ y.at W := by
  obtain ⟨hl, n, hf⟩ := struct_in Tryz.underlying48 h
  rw [cellsE] at hl
  match cs, hl with
  | [c0, c1, c2, c3, c4, c5, c6, c7, c8, c9, c10, c11, c12, c13, c14, c15, c16, c17, c18], _ =>
    obtain ⟨y0, h0⟩ := hf 0 _ rfl
    obtain ⟨y1, h1⟩ := hf 1 _ rfl
    obtain ⟨y2, h2⟩ := hf 2 _ rfl
    obtain ⟨y3, h3⟩ := hf 3 _ rfl
    obtain ⟨y4, h4⟩ := hf 4 _ rfl
    obtain ⟨y5, h5⟩ := hf 5 _ rfl
    obtain ⟨y6, h6⟩ := hf 6 _ rfl
    obtain ⟨y7, h7⟩ := hf 7 _ rfl
    obtain ⟨y8, h8⟩ := hf 8 _ rfl
    obtain ⟨y9, h9⟩ := hf 9 _ rfl
    simp only [List.getElem_toArray, List.getElem_cons_succ, List.getElem_cons_zero, cellsI, cellsC, cellsV, cellsB, List.drop_succ_cons, List.drop_zero, List.take_succ_cons, List.take_zero] at h0 h1 h2 h3 h4 h5 h6 h7 h8 h9
    obtain ⟨c, hc⟩ := cmd_in h0
    obtain ⟨z1, rfl⟩ := int_in Tryz.underlying3 h1
    obtain ⟨z2, rfl⟩ := int_in Tryz.underlying3 h2
    obtain ⟨z3, rfl⟩ := int_in Tryz.underlying3 h3
    obtain ⟨t4, p4, l4, e4, s4⟩ := value_in h4
    obtain ⟨z5, rfl⟩ := int_in Tryz.underlying3 h5
    obtain ⟨t6, p6, l6, e6, s6⟩ := value_in h6
    obtain ⟨b7, e7, _⟩ := DataW.trod_bool Tryz.underlying4 h7
    obtain ⟨b8, e8, _⟩ := DataW.trod_bool Tryz.underlying4 h8
    obtain ⟨t9, p9, l9, e9, s9⟩ := value_in h9
    simp only [C7.cells, List.cons.injEq, and_true] at hc e4 e6 e7 e8 e9
    obtain ⟨rfl, rfl, rfl, rfl, rfl, rfl, rfl⟩ := hc
    obtain ⟨rfl, rfl⟩ := e4
    obtain ⟨rfl, rfl⟩ := e6
    subst e7 e8
    obtain ⟨rfl, rfl⟩ := e9
    exact ⟨⟨⟨c, z1, z2, z3, t4, p4, z5, t6, p6, b7, b8, t9, p9⟩, l4, l6, l9⟩, rfl, s4, s6, s9⟩
end
theorem list_of' {α : Type} {n : Nat} {P : Nat → α → Prop} (h : ∀ i, i < n → ∃ c, P i c) : ∃ cs : List α, cs.length = n ∧ ∀ (j : Nat) c, cs[j]? = some c → P j c := by
  induction n with
  | zero => exact ⟨[], rfl, fun j c hc => by simp at hc⟩
  | succ n ih =>
    obtain ⟨cs, hl, hp⟩ := ih fun i hi => h i (by omega)
    obtain ⟨c, hc⟩ := h n (by omega)
    refine ⟨cs ++ [c], by simp [hl], fun j d hd => ?_⟩
    by_cases hj : j < cs.length
    · rw [List.getElem?_append_left hj] at hd; exact hp j d hd
    · have hlen := (List.getElem?_eq_some_iff.1 hd).1
      simp at hlen
      obtain rfl : j = cs.length := by omega
      simp at hd
      subst hd
      rw [hl]; exact hc
set_option maxRecDepth 100000 in
/-- A list of entries that came in. -/
theorem open_ents {H : Type} {enc : TypeId × Value → H} {W : World} {base : Nat} {spare : Nat → Bool} {held : Bool} {b0 : Nat} {v : Value} {d : DataW H} {p : List MemPlace} (hv : Value.okWide Tryz.prog W .any b0 22 v) (h : DataW.Trod enc Tryz.prog W base spare held 22 v d p) :
    ∃ xs : List En, SlE W v (xs.map En.e) ∧ AllAt W xs ∧ xs.length ≤ 9223372036854775807 := by
  obtain ⟨a0, n0, c0, rfl⟩ := okWide_slice Tryz.underlying22 hv
  obtain ⟨fuel, hf⟩ := h
  rcases open_slice Tryz.underlying22 hf with h0 | ⟨a, len, cap, m, n, D, Pl, hcs, _, hl, hm, hmm, _, hi⟩
  · have h0 := h0.1
    simp [Value.cells] at h0
    obtain ⟨rfl, rfl, rfl⟩ := h0
    exact ⟨[], SlG.nil _ _ _, fun x hx => by simp at hx, by simp⟩
  · simp [Value.cells] at hcs
    obtain ⟨rfl, rfl, rfl⟩ := hcs
    obtain ⟨xs, hal, hp⟩ := list_of' (n := n0) (P := fun i (x : En) => (∀ (f : Nat) u, x.e.list[f]? = some u → W.cell? (a.add (i * 19 + f)) = some u) ∧ x.at W) fun i hlt => by
      obtain ⟨cs', hc, ht'⟩ := hi i (by rw [hmm]; split <;> omega)
      rw [cellsE] at hc
      obtain ⟨x, rfl, hx⟩ := ent_in ht'
      obtain ⟨_, _, hat⟩ := World.cells?_some hc
      refine ⟨x, fun f u hu => ?_, hx⟩
      have hlt := (List.getElem?_eq_some_iff.1 hu).1
      have q := hat f (by rw [Ev.len] at hlt; exact hlt)
      rw [Go.Deep.add_add] at q
      rw [q]; exact hu
    have hfirst : 0 < xs.length → a.spot = none ∧ a.block < W.heap.size := fun h0 => by
      have hc : xs[0]? = some xs[0] := List.getElem?_eq_getElem h0
      have := (hp 0 _ hc).1 0 _ rfl
      exact ⟨by simpa [Addr.add] using World.cell?_spot this, by simpa [Addr.add] using World.block_lt_of_cell? W _ this⟩
    obtain ⟨b, o, spot⟩ := a
    refine ⟨xs, ⟨b, o, c0, some ⟨b, o, spot⟩, by rw [List.length_map, hal], fun h0 => ?_, fun j e hj f u hu => ?_, fun h0 => ?_⟩, fun x hx => ?_, ?_⟩
    · rw [show spot = none from (hfirst (by simpa using h0)).1]
    · rw [List.getElem?_map] at hj
      rcases hxj : xs[j]? with _ | x
      · rw [hxj] at hj; cases hj
      · rw [hxj] at hj
        cases hj
        have h0 : 0 < xs.length := by have := (List.getElem?_eq_some_iff.1 hxj).1; omega
        have := (hp j x hxj).1 f u hu
        rw [show spot = none from (hfirst h0).1, add_plain] at this
        rw [← Nat.add_assoc] at this
        exact this
    · exact (hfirst (by simpa using h0)).2
    · obtain ⟨j, hj⟩ := List.getElem?_of_mem hx
      exact (hp j x hj).2
    · rw [hal]; exact Nat.le_trans (Nat.le_trans hl hm) (by decide)
end Go.Proofs.YtpkkmfppdhjpkaaGreat
