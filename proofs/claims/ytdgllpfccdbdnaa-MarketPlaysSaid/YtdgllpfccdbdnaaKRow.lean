/- Rows of the document's orders; append. -/
import Derived.Test.YtdgllpfccdbdnaaKRelP
import Derived.Test.YtdgllpfccdbdnaaBSame
namespace Go.Proofs.Ytdgllpfccdbdnaa
set_option linter.unusedVariables false
set_option linter.unusedSimpArgs false
open Go.RowKit
open Go.Lib (hid)

theorem Try.infoR : (Try.prog.info? 71).map (fun i => (i.zero, i.size, i.bytes)) = some (some (.agg #[.int .i64 0, .int .i64 0, .int .i64 0, .int .i64 0]), 4, 32) := by kernel_rfl
/-- A row of the document's orders. -/
abbrev OwnR (w : World) (B : Nat) (v : Value) (l : List Od) : Prop := OwnG Od.cells 4 71 w B v l
theorem OwnR.shape {w : World} {B : Nat} {v : Value} {l : List Od} (h : OwnR w B v l) :
    (v = .slice none 0 0 ∧ l = []) ∨ ∃ g cap, v = .slice (some ⟨g, 0, none⟩) l.length cap ∧ l.length ≤ cap ∧ cap ≤ maxLen ∧ B ≤ g ∧ g < w.heap.size ∧
      (∀ (j : Nat) o, l[j]? = some o → w.cell? ⟨g, j * 4, none⟩ = some (.int .i64 o.i) ∧ w.cell? ⟨g, j * 4 + 1, none⟩ = some (.int .i64 o.s) ∧ w.cell? ⟨g, j * 4 + 2, none⟩ = some (.int .i64 o.p) ∧ w.cell? ⟨g, j * 4 + 3, none⟩ = some (.int .i64 o.n)) ∧
      ∀ j, w.frozen? ⟨g, j, none⟩ = false := by
  have hl := h.lt
  have h1 := h
  have hcl := fun g (hg : v.ownBlock = some g) => h.cells hg
  rcases h.2 with ⟨rfl, h0⟩ | ⟨g, cap, cur, rfl, hb, hg, hn, hm, hs, ht⟩
  · exact .inl ⟨rfl, List.length_eq_zero_iff.1 h0⟩
  · refine .inr ⟨g, cap, rfl, hn, hm, hb, (hl g rfl).2, fun j o hj => ?_, fun j => h1.frozenAt j⟩
    have hat := fun f u hu => hcl g rfl _ _ (flatG_at kO l j o hj f u hu)
    simp only [addr_add] at hat
    exact ⟨hat 0 _ rfl, hat 1 _ rfl, hat 2 _ rfl, hat 3 _ rfl⟩
/-- Its words, and what stands at each place. -/
theorem OwnR.at {w : World} {B : Nat} {v : Value} {l : List Od} (h : OwnR w B v l) : ∃ a n c, v = .slice a n c ∧ n = l.length ∧ ∀ (j : Nat) o, l[j]? = some o → ∃ g, a = some ⟨g, 0, none⟩ ∧ g < w.heap.size ∧ w.cell? ⟨g, j * 4, none⟩ = some (.int .i64 o.i) ∧ w.cell? ⟨g, j * 4 + 1, none⟩ = some (.int .i64 o.s) ∧ w.cell? ⟨g, j * 4 + 2, none⟩ = some (.int .i64 o.p) ∧ w.cell? ⟨g, j * 4 + 3, none⟩ = some (.int .i64 o.n) := by
  rcases h.shape with ⟨rfl, rfl⟩ | ⟨g, cap, rfl, _, _, _, hg, hc, _⟩
  · exact ⟨none, 0, 0, rfl, rfl, fun j o hj => by simp at hj⟩
  · exact ⟨_, _, cap, rfl, rfl, fun j o hj => ⟨g, rfl, hg, hc j o hj⟩⟩
theorem OwnR.made (w : World) {B : Nat} (hB : B ≤ w.heap.size) : OwnR (w.alloc (.cells #[] 71)) B (.slice (some ⟨w.heap.size, 0, none⟩) 0 0) [] := World.ownsRow_made w #[] 0 hB (by unfold maxLen; omega) rfl

/-- append into a row of one's own. -/
theorem wpList_append_or {w : World} {ops : Array Oper} {rest : List Oper} {o : Oper} {a : Act} {Q : Exit → Act → World → Prop} (hgd : o.guard = none) (s x : Operand) (ho : o.op = .call { callee := .builtin .append, args := #[s, x], argTypes := #[27, 27] })
    (B : Nat) (v : Value) (ps : List Od) (hs : a.eval s = v) (hown : OwnG Od.cells 4 71 w B v ps) (v2 : Value) (qs : List Od) (hx : a.eval x = v2) (h2 : SlG Od.cells 4 w v2 qs) (hn2 : qs = [] → v2 = .slice none 0 0 ∨ ∃ ad c, v2 = .slice (some ad) 0 c) (hlen : ps.length + qs.length ≤ 1000000) (hbase : B ≤ w.heap.size)
    (h : ∀ v' w', OwnG Od.cells 4 71 w' B v' (ps ++ qs) → w.grownBy w' v.ownBlock → wpList Try.prog ops Q rest (a.put o.dst v') w') : wpList Try.prog ops Q (o :: rest) a w := by
  obtain ⟨i0, hi, hz0, hz1, hz2⟩ := info_parts Try.infoR
  obtain ⟨b, off, cap, a2, e, ha, hc, hl⟩ := h2
  have hcase : (v2 = .slice none 0 0 ∧ qs = []) ∨ ∃ ad, v2 = .slice (some ad) qs.length cap ∧ (0 < qs.length → ad = ⟨b, off, none⟩) := by
    rcases Nat.eq_zero_or_pos qs.length with h0 | h0
    · have hq : qs = [] := List.length_eq_zero_iff.1 h0
      rcases hn2 hq with h1 | ⟨ad, c, h1⟩
      · exact .inl ⟨h1, hq⟩
      · rw [e] at h1
        injection h1 with e1 e2 e3
        exact .inr ⟨ad, by rw [e, e1], fun h3 => by omega⟩
    · exact .inr ⟨⟨b, off, none⟩, by rw [e, ha h0], fun _ => rfl⟩
  rcases hcase with ⟨rfl, rfl⟩ | ⟨ad, rfl, had⟩
  · refine wpList_append_own_none hgd s x 27 ho B 71 i0 4 Try.underlying27 hi v ps.length (flatG Od.cells ps) hs hown hx ?_
    exact h v w (by rw [List.append_nil]; exact hown) (grownRefl _ _)
  · refine wpList_append_own _ hgd s x 27 ho B 71 i0 _ 4 32 Try.underlying27 hi hz0 hz1 hz2 rfl (by decide) v ps.length (flatG Od.cells ps) hs hown ad qs.length cap (flatG Od.cells qs) hx (flatG_len kO qs) (fun j u hu => ?_) (flatG_all oneO qs) (by unfold maxLen; omega) (by omega) hbase ?_
    · have hj := (List.getElem?_eq_some_iff.1 hu).1
      rw [flatG_len kO] at hj
      have h0 : 0 < qs.length := by rcases Nat.eq_zero_or_pos qs.length with h0 | h0; rw [h0] at hj; omega; exact h0
      rw [had h0, addr_add']
      have hlt : j / 4 < qs.length := Nat.div_lt_of_lt_mul (by rw [Nat.mul_comm]; exact hj)
      have hat := hc (j / 4) qs[j / 4] (List.getElem?_eq_getElem hlt)
      have hfl : ∀ u', (Od.cells qs[j / 4])[j % 4]? = some u' → (flatG Od.cells qs)[j / 4 * 4 + j % 4]? = some u' := fun u' h' => flatG_at kO qs _ _ (List.getElem?_eq_getElem hlt) _ _ h'
      have hm : j % 4 < (Od.cells qs[j / 4]).length := by rw [kO]; exact Nat.mod_lt _ (by decide)
      have h1 := hfl _ (List.getElem?_eq_getElem hm)
      rw [show j / 4 * 4 + j % 4 = j by omega, hu] at h1
      have h2 := hat (j % 4) _ (List.getElem?_eq_getElem hm)
      rw [← Option.some.inj h1] at h2
      rw [show off + j / 4 * 4 + j % 4 = off + j by omega] at h2
      exact h2
    · intro v' w' ho' hg _
      refine h v' w' ?_ hg
      show World.ownsRow _ _ _ _ _ _ _
      rw [flatG_append, List.length_append]; exact ho'

/-- append into a row of one's own. -/
theorem wpList_append_of {w : World} {ops : Array Oper} {rest : List Oper} {o : Oper} {a : Act} {Q : Exit → Act → World → Prop} (hgd : o.guard = none) (s x : Operand) (ho : o.op = .call { callee := .builtin .append, args := #[s, x], argTypes := #[35, 35] })
    (B : Nat) (v : Value) (ps : List Fl) (hs : a.eval s = v) (hown : OwnG Fl.cells 3 55 w B v ps) (v2 : Value) (qs : List Fl) (hx : a.eval x = v2) (h2 : SlG Fl.cells 3 w v2 qs) (hn2 : qs = [] → v2 = .slice none 0 0 ∨ ∃ ad c, v2 = .slice (some ad) 0 c) (hlen : ps.length + qs.length ≤ 1000000) (hbase : B ≤ w.heap.size)
    (h : ∀ v' w', OwnG Fl.cells 3 55 w' B v' (ps ++ qs) → w.grownBy w' v.ownBlock → wpList Try.prog ops Q rest (a.put o.dst v') w') : wpList Try.prog ops Q (o :: rest) a w := by
  obtain ⟨i0, hi, hz0, hz1, hz2⟩ := info_parts Try.infoF
  obtain ⟨b, off, cap, a2, e, ha, hc, hl⟩ := h2
  have hcase : (v2 = .slice none 0 0 ∧ qs = []) ∨ ∃ ad, v2 = .slice (some ad) qs.length cap ∧ (0 < qs.length → ad = ⟨b, off, none⟩) := by
    rcases Nat.eq_zero_or_pos qs.length with h0 | h0
    · have hq : qs = [] := List.length_eq_zero_iff.1 h0
      rcases hn2 hq with h1 | ⟨ad, c, h1⟩
      · exact .inl ⟨h1, hq⟩
      · rw [e] at h1
        injection h1 with e1 e2 e3
        exact .inr ⟨ad, by rw [e, e1], fun h3 => by omega⟩
    · exact .inr ⟨⟨b, off, none⟩, by rw [e, ha h0], fun _ => rfl⟩
  rcases hcase with ⟨rfl, rfl⟩ | ⟨ad, rfl, had⟩
  · refine wpList_append_own_none hgd s x 35 ho B 55 i0 3 Try.underlying35 hi v ps.length (flatG Fl.cells ps) hs hown hx ?_
    exact h v w (by rw [List.append_nil]; exact hown) (grownRefl _ _)
  · refine wpList_append_own _ hgd s x 35 ho B 55 i0 _ 3 24 Try.underlying35 hi hz0 hz1 hz2 rfl (by decide) v ps.length (flatG Fl.cells ps) hs hown ad qs.length cap (flatG Fl.cells qs) hx (flatG_len kF qs) (fun j u hu => ?_) (flatG_all oneF qs) (by unfold maxLen; omega) (by omega) hbase ?_
    · have hj := (List.getElem?_eq_some_iff.1 hu).1
      rw [flatG_len kF] at hj
      have h0 : 0 < qs.length := by rcases Nat.eq_zero_or_pos qs.length with h0 | h0; rw [h0] at hj; omega; exact h0
      rw [had h0, addr_add']
      have hlt : j / 3 < qs.length := Nat.div_lt_of_lt_mul (by rw [Nat.mul_comm]; exact hj)
      have hat := hc (j / 3) qs[j / 3] (List.getElem?_eq_getElem hlt)
      have hfl : ∀ u', (Fl.cells qs[j / 3])[j % 3]? = some u' → (flatG Fl.cells qs)[j / 3 * 3 + j % 3]? = some u' := fun u' h' => flatG_at kF qs _ _ (List.getElem?_eq_getElem hlt) _ _ h'
      have hm : j % 3 < (Fl.cells qs[j / 3]).length := by rw [kF]; exact Nat.mod_lt _ (by decide)
      have h1 := hfl _ (List.getElem?_eq_getElem hm)
      rw [show j / 3 * 3 + j % 3 = j by omega, hu] at h1
      have h2 := hat (j % 3) _ (List.getElem?_eq_getElem hm)
      rw [← Option.some.inj h1] at h2
      rw [show off + j / 3 * 3 + j % 3 = off + j by omega] at h2
      exact h2
    · intro v' w' ho' hg _
      refine h v' w' ?_ hg
      show World.ownsRow _ _ _ _ _ _ _
      rw [flatG_append, List.length_append]; exact ho'

/-- A slice of one, just made. -/
theorem sl_one_or (w : World) (x : Od) : SlG Od.cells 4 (w.alloc (.cells #[.int .i64 x.i, .int .i64 x.s, .int .i64 x.p, .int .i64 x.n] 71)) (.slice (some ⟨w.heap.size, 0, none⟩) 1 1) [x] :=
  ⟨w.heap.size, 0, 1, _, rfl, fun _ => rfl, fun j y hy i v hv => by
    have h0 : j = 0 := by have := (List.getElem?_eq_some_iff.1 hy).1; simp at this; exact this
    subst h0
    simp at hy
    subst hy
    rw [show 0 + 0 * 4 + i = i by omega, cellAt' (heap_alloc_new w _)]
    simpa using hv, fun _ => by simp⟩

/-- A slice of one, just made. -/
theorem sl_one_of (w : World) (x : Fl) : SlG Fl.cells 3 (w.alloc (.cells #[.int .i64 x.i, .int .i64 x.p, .int .i64 x.q] 55)) (.slice (some ⟨w.heap.size, 0, none⟩) 1 1) [x] :=
  ⟨w.heap.size, 0, 1, _, rfl, fun _ => rfl, fun j y hy i v hv => by
    have h0 : j = 0 := by have := (List.getElem?_eq_some_iff.1 hy).1; simp at this; exact this
    subst h0
    simp at hy
    subst hy
    rw [show 0 + 0 * 3 + i = i by omega, cellAt' (heap_alloc_new w _)]
    simpa using hv, fun _ => by simp⟩
end Go.Proofs.Ytdgllpfccdbdnaa
