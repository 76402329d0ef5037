/- The document's net, call by call. -/
import Derived.Test.YtcfkifiejojciaaNSend
namespace Go.Proofs.Ytcfkifiejojciaa
set_option linter.unusedVariables false
open Go.RowKit
open Go.Lib (hid)

/-- A net of the document's. -/
abbrev NetR (w : World) (B p : Nat) (room : Int) (v : Value) (lost : Int) (ps : Ps) : Prop := NetA 33 w B p room v lost ps
theorem Rw.drewN {w : World} {B : Nat} {v : Value} {ps : Ps} (h : Rw w B v ps) (n : Nat) : Rw (w.drewN n) B v ps := h
theorem less_step {α : Type} {l : List α} {i j : Nat} {x : α} (h : l[j]? = some x) (hj : j ≠ i) : less (l.take (j + 1)) i = less (l.take j) i ++ [x] := by
  have hl := (List.getElem?_eq_some_iff.1 h).1
  have hlen : (l.take j).length = j := by rw [List.length_take]; omega
  rw [takeN_snoc h]
  obtain ⟨m, hm⟩ : ∃ m, m = l.take j := ⟨_, rfl⟩
  rw [← hm] at hlen ⊢
  unfold less
  by_cases c : j < i
  · rw [List.take_of_length_le (show (m ++ [x]).length ≤ i by rw [List.length_append, hlen, List.length_singleton]; omega), List.drop_eq_nil_of_le (show (m ++ [x]).length ≤ i + 1 by rw [List.length_append, hlen, List.length_singleton]; omega), List.take_of_length_le (show m.length ≤ i by omega), List.drop_eq_nil_of_le (show m.length ≤ i + 1 by omega)]
    simp
  · rw [List.take_append_of_le_length (by omega), List.drop_append_of_le_length (by omega), List.append_assoc]
theorem less_skip {α : Type} {l : List α} {i : Nat} {x : α} (h : l[i]? = some x) : less (l.take (i + 1)) i = less (l.take i) i := by
  have hl := (List.getElem?_eq_some_iff.1 h).1
  have hlen : (l.take i).length = i := by rw [List.length_take]; omega
  rw [takeN_snoc h]
  unfold less
  rw [List.take_append_of_le_length (by omega), List.drop_eq_nil_of_le (by rw [List.length_append, hlen, List.length_singleton]; omega), List.drop_eq_nil_of_le (by omega)]

/-- Frames, put behind what stands in a net, in a new row: what the document's calls do. -/
theorem left_new {w W w' : World} {B q : Nat} {room s : Int} {u u2 u3 : Value} {ps : Ps} {x : Sv × List UInt8} (h : NetR w B q room u s ps) (hW : Below w.heap.size w W) (h2 : Rw w' B u3 (ps ++ [x])) (hg : W.grownBy w' u2.ownBlock) (hu2 : ∀ k, u2.ownBlock = some k → w.heap.size ≤ k) (hf : Fr W.heap.size u2 u3) :
    LeftA 33 w (w'.setCell ⟨q, 1, none⟩ u3) B q room u s (bs (ps ++ [x])) := by
  have hq := (Array.getElem?_eq_some_iff.1 h.1).1
  have hb : Below w.heap.size w w' := hW.grown hg hW.size hu2
  have hR : Tri 33 w' q room u s := obOn h.1 hb hq
  have hne := Tri.off hR (by decide) h2
  refine ⟨u3, _, ⟨Tri.set1 hR, h2.tch (S := fun k => k = q) (Tch.set _ _ _ rfl) (fun k hk => by cases hk; exact ⟨h.2.2, not8 hR (by decide)⟩) (fun k hk e => hne (by rw [hk, e])), h.2.2⟩, rfl, (Tch.ofBelow hb).trans (Tch.set _ _ _ (.inl rfl)), fun k hk => .inr ?_⟩
  rcases hf k hk with h1 | h1
  · exact hu2 k h1
  · have := hW.size; omega

set_option maxHeartbeats 1600000 in
set_option maxRecDepth 100000 in
theorem rDouble_no {w : World} {q B : Nat} {room s : Int} {u : Value} {ps : Ps} (h : NetR w B q room u s ps) (i : Int) (hi : i < 0 ∨ (ps.length : Int) ≤ i) : Calls Try.prog 21 #[ptr q, .int .i64 i] w fun e w' => e = .returned (.bool false) ∧ Below w.heap.size w w' := by
  obtain ⟨hlt, c0, c1, c2, f0, f1, f2⟩ := h.1.cells
  obtain ⟨a, cap, rfl, hcap, _⟩ := h.2.1.any
  clear h hcap f0 f1 f2 c2
  by_cases h0 : i < 0
  · clear hi
    have d0 : decide (i < 0) = true := decide_eq_true h0
    go_enter Try.func21, Try.ntmps21
    go_wp2_with fail
    go_quiet (fail)
    go_wp2
    go_ret
    exact ⟨rfl, belowDrewN (Below.refl _ w) _⟩
  · have h1 : (ps.length : Int) ≤ i := by omega
    have d0 : decide (i < 0) = false := decide_eq_false h0
    have d1 : decide ((ps.length : Int) ≤ i) = true := decide_eq_true h1
    clear hi
    go_enter Try.func21, Try.ntmps21
    go_wp2_with fail
    go_quiet (fail)
    go_wp2
    go_ret
    exact ⟨rfl, belowDrewN (Below.refl _ w) _⟩
set_option maxHeartbeats 1600000 in
set_option maxRecDepth 100000 in
theorem rDouble_full {w : World} {q B : Nat} {room s : Int} {u : Value} {ps : Ps} (h : NetR w B q room u s ps) (i : Nat) (hi : i < ps.length) (hm : room ≤ (ps.length : Int)) : Calls Try.prog 21 #[ptr q, .int .i64 i] w fun e w' => e = .returned (.bool false) ∧ Below w.heap.size w w' := by
  obtain ⟨hlt, c0, c1, c2, f0, f1, f2⟩ := h.1.cells
  obtain ⟨a, cap, rfl, hcap, _⟩ := h.2.1.any
  obtain ⟨n, hn⟩ : ∃ n, n = ps.length := ⟨_, rfl⟩
  rw [← hn] at c1 hi hm
  have d0 : decide ((i : Int) < 0) = false := decide_eq_false (by omega)
  have d1 : decide ((n : Int) ≤ (i : Int)) = false := decide_eq_false (by omega)
  have d3 : decide (n ≤ i) = false := decide_eq_false (by omega)
  have d2 : decide (room ≤ (n : Int)) = true := decide_eq_true hm
  clear h hcap f0 f1 f2 c2 hn
  go_enter Try.func21, Try.ntmps21
  go_wp2_with fail
  go_quiet (fail)
  go_wp2
  go_ret
  exact ⟨rfl, belowDrewN (Below.refl _ w) _⟩
set_option maxHeartbeats 1600000 in
set_option maxRecDepth 100000 in
theorem rDouble_yes {w : World} {q B : Nat} {room s : Int} {u : Value} {ps : Ps} (h : NetR w B q room u s ps) (hB : B ≤ w.heap.size) (i : Nat) {x : Sv × List UInt8} (hi : ps[i]? = some x) (hm : (ps.length : Int) < room) (hr : room ≤ 4096) :
    Calls Try.prog 21 #[ptr q, .int .i64 i] w fun e w' => e = .returned (.bool true) ∧ LeftA 33 w w' B q room u s (bs (ps ++ [x])) := by
  obtain ⟨hlt, c0, c1, c2, f0, f1, f2⟩ := h.1.cells
  have HN := hid h
  have HH := hid hB
  have hil := (List.getElem?_eq_some_iff.1 hi).1
  obtain ⟨⟨sa, sn, sc⟩, l⟩ := x
  have HM : Hid (ps.length < 4096) := hid (by omega)
  have HX : Hid (Bt w B ⟨sa, sn, sc⟩ l) := hid (h.2.1.2 _ (List.mem_of_getElem? hi))
  rcases h.2.1.shape with ⟨rfl, rfl⟩ | ⟨g, cap, rfl, hn, hmx, hBg, hg, hc, hf⟩
  · simp at hil
  · have k0 := hc i _ hi
    dsimp only at k0
    obtain ⟨n, hn2⟩ : ∃ n, n = ps.length := ⟨_, rfl⟩
    rw [← hn2] at c1 hil hm hn HN
    have d0 : decide ((i : Int) < 0) = false := decide_eq_false (by omega)
    have d1 : decide ((n : Int) ≤ (i : Int)) = false := decide_eq_false (by omega)
    have d3 : decide (n ≤ i) = false := decide_eq_false (by omega)
    have d2 : decide (room ≤ (n : Int)) = false := decide_eq_false (by omega)
    clear h hc hf hmx hBg hn2 hi c2 f0 f1 f2 hB
    go_enter Try.func21, Try.ntmps21
    go_wp2_with fail
    go_quiet (fail)
    obtain ⟨W0, hW0⟩ : ∃ W, W = w.drewN nq := ⟨_, rfl⟩
    have hb0 : Below w.heap.size w W0 := by rw [hW0]; exact belowDrewN (Below.refl _ w) _
    have HSZ := hid (show W0.heap.size = w.heap.size by rw [hW0]; rfl)
    rw [← hW0]
    have hN0 := HN.out.on hb0
    obtain ⟨hlt0, z0, z1, z2, y0, y1, y2⟩ := hN0.1.cells
    have HN0 := hid hN0
    have HX0 := hid (HX.out.on hb0)
    have HB0 := hid hb0
    have hg0 : g < W0.heap.size := by rw [HSZ.out]; exact hg
    have k1 : W0.cell? ⟨g, i, none⟩ = some (.slice sa sn sc) := (hb0.cell (p := ⟨g, i, none⟩) hg).trans k0
    have HG := hid hg0
    clear c0 c1 k0 hW0 hb0 hN0 y0 y2 hg0 hg hlt
    have tok : Hid (0 = 0) := hid rfl
    go_wp2_with (first
      | (clear tok; at_builtin; refine wpList_append_rw rfl _ _ rfl B _ [] rfl (Rw.made W0 (by have h1 := HH.out; have h2 := HSZ.out; omega)) _ ps rfl (HN0.out.on ((Below.refl _ W0).alloc (Nat.le_refl _) _)).2.1.sr (by have := HM.out; simp; omega) (by have h1 := HH.out; have h2 := HSZ.out; simp; omega) ?_; (
          intro v1 w1 hR hg1 hf1
          have hb1 : Below W0.heap.size W0 w1 := ((Below.refl _ W0).alloc (Nat.le_refl _) (.cells #[] 40)).grown hg1 (by simp) (fun k hk => by cases hk; exact Nat.le_refl _)
          have HB1 := hid hb1
          have HR1 : Hid (Rw w1 B v1 ps) := hid hR
          have HF1 : Hid (∀ k, v1.ownBlock = some k → W0.heap.size ≤ k) := hid (fun k hk => by
            rcases hf1 k hk with h1 | h1
            · cases h1; exact Nat.le_refl _
            · simp at h1; omega)
          have e1 := (hb1.cell (p := ⟨q, 1, none⟩) hlt0).trans z1
          have e2 := (hb1.cell (p := ⟨g, i, none⟩) HG.out).trans k1
          have HX1 := hid (HX0.out.on hb1)
          have hb2 : Below w1.heap.size w1 (w1.alloc (.cells #[.slice sa sn sc] 40)) := (Below.refl _ w1).alloc (Nat.le_refl _) _
          have HB2 := hid hb2
          have HS2 : Hid (Sr (w1.alloc (.cells #[.slice sa sn sc] 40)) B (.slice (some ⟨w1.heap.size, 0, none⟩) 1 1) [(⟨sa, sn, sc⟩, l)]) := hid (Sr.one HX1.out)
          have HZ : Hid (B ≤ w1.heap.size) := hid (by have h1 := HH.out; have h2 := HSZ.out; have h3 := hb1.size; omega)
          obtain ⟨a1, n1, cap1, rfl, hn1⟩ := hR.asSlice
          clear hR hg1 hf1 hb1 hb2 hn1))
      | (at_builtin; refine wpList_append_rw rfl _ _ rfl B _ ps rfl (HR1.out.on HB2.out) _ _ rfl HS2.out (by have := HM.out; simp; omega) (by have := HZ.out; simp; omega) ?_; (
          intro v2 w2 hR2 hg2 hf2
          have HL := hid (left_new HN0.out (HB1.out.trans (HB2.out.mono HB1.out.size)) hR2 hg2 HF1.out hf2)
          have hb3 : Below W0.heap.size W0 w2 := (HB1.out.trans (HB2.out.mono HB1.out.size)).grown hg2 (HB1.out.trans (HB2.out.mono HB1.out.size)).size HF1.out
          obtain ⟨hlt3, p0, p1, p2, o0, o1, o2⟩ := Tri.cells (obOn HN0.out.1 hb3 hlt0)
          obtain ⟨a2, n2, cap2, rfl, hn2⟩ := hR2.asSlice
          clear hR2 hg2 hf2 hb3 hn2)))
    go_ret
    obtain ⟨v', ps', h1, h2, h3, h4⟩ := HL.out
    exact ⟨rfl, v', ps', h1, h2, (Tch.ofBelow HB0.out).trans h3, fun k hk => by have := h4 k hk; rw [HSZ.out] at this; exact this⟩
end Go.Proofs.Ytcfkifiejojciaa
