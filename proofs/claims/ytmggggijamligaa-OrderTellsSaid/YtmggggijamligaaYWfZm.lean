import Derived.Test.YtmggggijamligaaG18
namespace Go.Proofs.Ytmggggijamligaa
set_option linter.unusedVariables false
open Go.Joins Go.ChangeShapes Go.WideShapes Go.ChangeAt Go.RowKit Go.Deep
section
variable {H : Type} {enc : TypeId × Value → H} {W : World} {base : Nat} {spare : Nat → Bool} {held : Bool} {fuel : Nat}
theorem cmds_wf {v : Value} {x : DataW H × List MemPlace} {cs : List C7} (hf : DataW.trod enc Try.prog W base spare held fuel 35 [v] = some x) (hs : Sl W v cs) : ∀ c ∈ cs, wfI c.i := by
  rcases open_fields Try.underlying35 Try.underlying31 (by kernel_rfl) (by kernel_rfl) hf with h0 | ⟨a, len, cap, hcs, hm, hi⟩
  · obtain rfl := (List.cons.inj h0).1
    obtain ⟨_, _, _, _, e, _⟩ := hs
    injection e with e1 e2 e3
    have : cs = [] := List.length_eq_zero_iff.1 e2.symm
    subst this
    exact fun c h => by simp at h
  · obtain rfl := (List.cons.inj hcs).1
    obtain ⟨b, o, cap', a', e, _, ha, hc, _⟩ := hs
    injection e with e1 e2 e3
    intro c hcm
    obtain ⟨j, hj⟩ := List.getElem?_of_mem hcm
    have hjl := (List.getElem?_eq_some_iff.1 hj).1
    have h1 := ha (by omega)
    rw [← e1] at h1
    cases h1
    obtain ⟨n, hf⟩ := hi j (by omega)
    obtain ⟨v0, y0, g0, t0⟩ := hf 0 _ rfl
    obtain ⟨z0, e0, _, hw⟩ := DataW.trod_int Try.underlying3 t0
    simp only [List.cons.injEq, and_true] at e0
    subst e0
    have h2 : W.cell? ⟨b, o + (j * 7 + 0), none⟩ = some (.int .i64 z0) := by rw [← add_plain]; exact g0
    have h3 := hc j c hj 0 _ rfl
    rw [h2] at h3
    cases h3
    exact hw
set_option maxRecDepth 100000 in
theorem ent_wfs {e : Ev} {x : DataW H × List MemPlace} {cs : List C7} (h : DataW.trod enc Try.prog W base spare held fuel 55 e.list = some x) (hs : Sl W e.vp.v cs) : wfI e.c.i ∧ ∀ c ∈ cs, wfI c.i := by
  obtain ⟨_, n, hf⟩ := struct_in Try.underlying55 h
  obtain ⟨y0, h0⟩ := hf 0 _ rfl
  obtain ⟨y9, h9⟩ := hf 9 _ rfl
  simp only [Ev.list, List.getElem_toArray, List.getElem_cons_succ, List.getElem_cons_zero, cellsC, cellsV, List.drop_succ_cons, List.drop_zero, List.take_succ_cons, List.take_zero] at h0 h9
  constructor
  · obtain ⟨_, n2, hf2⟩ := struct_in Try.underlying31 h0
    obtain ⟨y1, h1⟩ := hf2 0 _ rfl
    simp only [List.getElem_toArray, List.getElem_cons_zero, cellsI, List.drop_zero, List.take_succ_cons, List.take_zero] at h1
    obtain ⟨z, ez, _, hw⟩ := DataW.trod_int Try.underlying3 h1
    simp only [List.cons.injEq, and_true] at ez
    cases ez
    exact hw
  · obtain ⟨_, n2, hf2⟩ := struct_in Try.underlying37 h9
    obtain ⟨y1, h1⟩ := hf2 1 _ rfl
    simp only [List.getElem_toArray, List.getElem_cons_succ, List.getElem_cons_zero, cellsS, List.drop_succ_cons, List.drop_zero, List.take_succ_cons, List.take_zero] at h1
    exact cmds_wf h1 hs
end
set_option maxRecDepth 100000 in
theorem ents_wf {H : Type} {enc : TypeId × Value → H} {W : World} {base : Nat} {spare : Nat → Bool} {held : Bool} {v : Value} {d : DataW H} {p : List MemPlace} {xs : List En} (h : DataW.Trod enc Try.prog W base spare held 22 v d p) (hS : SlE W v (evs xs)) (hA : AllAt W xs) : ∀ y ∈ xs, wfI y.id ∧ ∀ c ∈ y.v, wfI c.i := by
  obtain ⟨fuel, hf⟩ := h
  obtain ⟨b, o, cap', a', rfl, ha, hr, _⟩ := hS
  rw [List.length_map] at hf ha
  intro y hy
  obtain ⟨j, hj⟩ := List.getElem?_of_mem hy
  have hjl := (List.getElem?_eq_some_iff.1 hj).1
  obtain rfl := ha (by omega)
  rcases open_slice Try.underlying22 hf with h0 | ⟨a, len, cap, m, n, D, Pl, hcs, _, hl, hm, hmm, _, hi⟩
  · have h0 := h0.1
    simp [Value.cells] at h0
  · simp [Value.cells] at hcs
    obtain ⟨rfl, rfl, rfl⟩ := hcs
    obtain ⟨cs', hc, ht'⟩ := hi j (by rw [hmm]; split <;> omega)
    rw [cellsE] at hc
    obtain ⟨hlen, _, hat⟩ := World.cells?_some hc
    have e : cs' = y.e.list := by
      apply List.ext_getElem?
      intro f
      by_cases hf19 : f < 19
      · have q := hat f hf19
        rw [Go.Deep.add_add, add_plain] at q
        have q2 : W.cell? ⟨b, o + j * 19 + f, none⟩ = some (y.e.list[f]'(by rw [Ev.len]; exact hf19)) := hr j y.e (at_evs hj) f _ (List.getElem?_eq_getElem _)
        rw [show o + (j * 19 + f) = o + j * 19 + f by omega, q2] at q
        rw [← q, List.getElem?_eq_getElem]
      · rw [List.getElem?_eq_none (by omega), List.getElem?_eq_none (by rw [Ev.len]; omega)]
    rw [e] at ht'
    exact ent_wfs ht' (hA y hy).2.2
set_option maxRecDepth 100000 in
theorem names_wf {H : Type} {enc : TypeId × Value → H} {W : World} {base : Nat} {spare : Nat → Bool} {held : Bool} {v : Value} {d : DataW H} {p : List MemPlace} {l : List Int} (h : DataW.Trod enc Try.prog W base spare held 23 v d p) (hS : SlI W v l) : ∀ x ∈ l, wfI x := by
  obtain ⟨fuel, hf⟩ := h
  obtain ⟨b, o, cap', a', rfl, ha, hr, _⟩ := hS
  intro y hy
  obtain ⟨j, hj⟩ := List.getElem?_of_mem hy
  have hjl := (List.getElem?_eq_some_iff.1 hj).1
  obtain rfl := ha (by omega)
  rcases open_slice Try.underlying23 hf with h0 | ⟨a, len, cap, m, n, D, Pl, hcs, _, hl, hm, hmm, _, hi⟩
  · have h0 := h0.1
    simp [Value.cells] at h0
  · simp [Value.cells] at hcs
    obtain ⟨rfl, rfl, rfl⟩ := hcs
    obtain ⟨cs', hc, ht'⟩ := hi j (by rw [hmm]; split <;> omega)
    rw [cellsI] at hc
    obtain ⟨hlen, _, hat⟩ := World.cells?_some hc
    obtain ⟨z, ez, _, hw⟩ := DataW.trod_int Try.underlying3 ht'
    have q := hat 0 (by omega)
    rw [Go.Deep.add_add, add_plain] at q
    have q2 := hr j y hj
    rw [show o + (j * 1 + 0) = o + j by omega, q2, ez] at q
    cases q
    exact hw
end Go.Proofs.Ytmggggijamligaa
