/- A book as a list and its two sides: Place. -/
import Derived.Test.YtdgllpfccdbdnaaKRel
namespace Go.Proofs.Ytdgllpfccdbdnaa
set_option linter.unusedVariables false
set_option linter.unusedSimpArgs false

def AgreeP (err : Int) (fs : List Fl) (left : Int) (L : List Od) (s : Res) : Prop := s.1 = err ∧ s.2.1 = fs ∧ s.2.2.1 = left ∧ Rel L s.2.2.2.1 s.2.2.2.2
theorem may_of {bs ss : List Od} {o : Od} (he : refE bs ss o = 0) : (o.s = 0 ∨ o.s = 1) ∧ 1 ≤ o.i ∧ 1 ≤ o.p ∧ o.p ≤ 1048576 ∧ 1 ≤ o.n ∧ o.n ≤ 1048576 := by
  refine may_iff.1 ?_
  unfold refE at he
  split at he
  · cases he
  · split at he
    · cases he
    · rename_i hh; simpa using hh
theorem Rel.l1' {L bs ss : List Od} (h : Rel L bs ss) {s t p n id left : Int} {own oth Lc : List Od} {fs : List Fl} (hP : Plc s t p n own oth id Lc fs left) : 0 ≤ left ∧ left ≤ n := ⟨hP.l0, hP.l1⟩
/-- The document's errors of an order. -/
theorem ref_bad {L bs ss : List Od} (h : Rel L bs ss) (o : Od) : refE bs ss o = if o.n = 0 then 7 else if mayB o = false then 1 else if L.any (isI o.i) then 6 else 0 := by
  unfold refE wOk; rw [h.any]
theorem rel_bad {L bs ss : List Od} (h : Rel L bs ss) {o : Od} (he : refE bs ss o ≠ 0) : AgreeP (refE bs ss o) [] 0 L (placeF bs ss o) := by
  unfold AgreeP placeF
  rw [if_pos he]
  exact ⟨rfl, rfl, rfl, h⟩

theorem rel_place0 {L bs ss : List Od} (h : Rel L bs ss) (hF : FineB bs ss) {i p n : Int} (he : refE bs ss ⟨i, 0, p, n⟩ = 0) {Lc : List Od} {fs : List Fl} {left : Int} (hP : Plc 0 1 p n bs ss i Lc fs left)
    (hd : left = 0 ∨ sideF 1 Lc = [] ∨ ∃ x xs, sideF 1 Lc = x :: xs ∧ meetsB 0 p x.p = false) :
    (left = 0 → AgreeP 0 fs 0 Lc (placeF bs ss ⟨i, 0, p, n⟩)) ∧ (0 < left → 8 ≤ Lc.length → AgreeP 4 [] 0 L (placeF bs ss ⟨i, 0, p, n⟩)) ∧ (0 < left → Lc.length < 8 → AgreeP 0 fs left (Lc ++ [⟨i, 0, p, left⟩]) (placeF bs ss ⟨i, 0, p, n⟩)) := by
  obtain ⟨hfr, hwo⟩ := hP.done hd
  have hmay := may_of he
  simp only at hmay
  obtain ⟨_, hi1, hp1, hp2, hn1, hn2⟩ := hmay
  have hpf := place_fine (s := 0) (t := 1) (o := ⟨i, 0, p, n⟩) (.inl ⟨rfl, rfl⟩) (ok_mk (by omega) (by omega) (by omega) (by omega) (by omega)) hF.fb hF.fs hF.gb hF.gs (fun x hx y hy => by have := hF.un x hx y hy; unfold meetsB; simp; omega) (fs, left) hfr
  obtain ⟨_, _, _, _, _, _, hl1, hl2⟩ := hpf
  simp only at hl1 hl2
  have hlc : (sideF 0 Lc).length + (sideF 1 Lc).length = Lc.length := len_side Lc fun x hx => (hP.ok x hx).1
  have hown := hP.own
  have hR : Rel Lc (sideF 0 Lc) (sideF 1 Lc) := ⟨hP.ok, hP.un, rfl, rfl, hP.len⟩
  have hl1' := h.l1' hP
  unfold AgreeP placeF
  rw [if_neg (by omega)]
  simp only
  first | rw [if_pos trivial] | rw [if_pos rfl]
  rw [← hfr, hwo]
  simp only
  refine ⟨fun h0 => ?_, fun h0 h8 => ?_, fun h0 h8 => ?_⟩
  · subst h0
    rw [if_neg (by omega)]
    rw [hown] at hR
    exact ⟨rfl, rfl, rfl, hR⟩
  · have := hl2 h0
    rw [hwo] at this
    rw [hown] at hlc
    rw [if_pos h0, if_pos (by omega)]
    exact ⟨rfl, rfl, rfl, h⟩
  · have := hl2 h0
    rw [hwo] at this
    rw [hown] at hlc
    rw [if_pos h0, if_neg (by omega)]
    refine ⟨rfl, rfl, rfl, ?_⟩
    have hput := hR.put (o := ⟨i, 0, p, left⟩) (.inl rfl) (ok_mk (by omega) (by omega) (by omega) (by omega) (by omega)) (fun x hx => hP.ids x hx) h8
    simp only at hput
    rw [hown] at hput
    simpa using hput

theorem rel_place1 {L bs ss : List Od} (h : Rel L bs ss) (hF : FineB bs ss) {i p n : Int} (he : refE bs ss ⟨i, 1, p, n⟩ = 0) {Lc : List Od} {fs : List Fl} {left : Int} (hP : Plc 1 0 p n ss bs i Lc fs left)
    (hd : left = 0 ∨ sideF 0 Lc = [] ∨ ∃ x xs, sideF 0 Lc = x :: xs ∧ meetsB 1 p x.p = false) :
    (left = 0 → AgreeP 0 fs 0 Lc (placeF bs ss ⟨i, 1, p, n⟩)) ∧ (0 < left → 8 ≤ Lc.length → AgreeP 4 [] 0 L (placeF bs ss ⟨i, 1, p, n⟩)) ∧ (0 < left → Lc.length < 8 → AgreeP 0 fs left (Lc ++ [⟨i, 1, p, left⟩]) (placeF bs ss ⟨i, 1, p, n⟩)) := by
  obtain ⟨hfr, hwo⟩ := hP.done hd
  have hmay := may_of he
  simp only at hmay
  obtain ⟨_, hi1, hp1, hp2, hn1, hn2⟩ := hmay
  have hpf := place_fine (s := 1) (t := 0) (o := ⟨i, 1, p, n⟩) (.inr ⟨rfl, rfl⟩) (ok_mk (by omega) (by omega) (by omega) (by omega) (by omega)) hF.fs hF.fb hF.gs hF.gb (fun x hx y hy => by have := hF.un y hy x hx; unfold meetsB; simp; omega) (fs, left) hfr
  obtain ⟨_, _, _, _, _, _, hl1, hl2⟩ := hpf
  simp only at hl1 hl2
  have hlc : (sideF 0 Lc).length + (sideF 1 Lc).length = Lc.length := len_side Lc fun x hx => (hP.ok x hx).1
  have hown := hP.own
  have hR : Rel Lc (sideF 0 Lc) (sideF 1 Lc) := ⟨hP.ok, hP.un, rfl, rfl, hP.len⟩
  have hl1' := h.l1' hP
  unfold AgreeP placeF
  rw [if_neg (by omega)]
  simp only
  first | rw [if_neg (by decide)] | rw [if_neg not_false]
  rw [← hfr, hwo]
  simp only
  refine ⟨fun h0 => ?_, fun h0 h8 => ?_, fun h0 h8 => ?_⟩
  · subst h0
    rw [if_neg (by omega)]
    rw [hown] at hR
    exact ⟨rfl, rfl, rfl, hR⟩
  · have := hl2 h0
    rw [hwo] at this
    rw [hown] at hlc
    rw [if_pos h0, if_pos (by omega)]
    exact ⟨rfl, rfl, rfl, h⟩
  · have := hl2 h0
    rw [hwo] at this
    rw [hown] at hlc
    rw [if_pos h0, if_neg (by omega)]
    refine ⟨rfl, rfl, rfl, ?_⟩
    have hput := hR.put (o := ⟨i, 1, p, left⟩) (.inr rfl) (ok_mk (by omega) (by omega) (by omega) (by omega) (by omega)) (fun x hx => hP.ids x hx) h8
    simp only at hput
    rw [hown] at hput
    simpa using hput
end Go.Proofs.Ytdgllpfccdbdnaa
