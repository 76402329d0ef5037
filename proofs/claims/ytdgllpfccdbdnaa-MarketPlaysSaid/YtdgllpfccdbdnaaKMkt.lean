/- The program's market: New, a place's copy, Clone. -/
import Derived.Test.YtdgllpfccdbdnaaKFlo
namespace Go.Proofs.Ytdgllpfccdbdnaa
set_option linter.unusedVariables false
set_option linter.unusedSimpArgs false
open Go.RowKit
open Go.Lib (hid)

theorem stC (a b : Nat) (W : World) (ad : Addr) (m : Mode) : (store ad (cxV a b) m).run Try.prog W = stored Try.prog W ad (cxV a b) m := run_store _ W ad _ m rfl
/-- A symbol's place: what rests, and what was turned over. -/
structure Pl where
  bs : List Od
  ss : List Od
  vol : Nat
  val : Nat
def Pl.none : Pl := ⟨[], [], 0, 0⟩
def upd {α : Type} (P : Nat → α) (s : Nat) (x : α) : Nat → α := fun i => if i = s then x else P i
theorem upd_at {α : Type} (P : Nat → α) (s : Nat) (x : α) : upd P s x s = x := by simp [upd]
theorem upd_off {α : Type} (P : Nat → α) {s i : Nat} (x : α) (h : i ≠ s) : upd P s x i = P i := by simp [upd, h]
abbrev cx (P : Pl) : Value := cxV P.vol P.val
abbrev plV (q : Nat) (P : Pl) : Value := .agg #[ptr q, cx P]
def MkO (V : Nat → Value × Value) : Obj := .cells #[(V 0).1, (V 0).2, (V 1).1, (V 1).2, (V 2).1, (V 2).2, (V 3).1, (V 3).2] 62 (0, 0)
/-- A book at a place. -/
def BkQ (w : World) (q : Nat) (P : Pl) : Prop := ∃ va vb, BkA w 0 q va vb P.bs P.ss
def PlOk (P : Pl) : Prop := FineB P.bs P.ss ∧ P.vol ≤ 1099511627776 ∧ P.val ≤ 1099511627776
/-- A market. -/
structure Mk (w : World) (m : Nat) (q : Nat → Nat) (P : Nat → Pl) : Prop where
  ob : w.heap[m]? = some (MkO fun i => (ptr (q i), cx (P i)))
  at' : ∀ i, i < 4 → BkQ w (q i) (P i)
theorem BkA.tch {S : Nat → Prop} {w w' : World} {B q : Nat} {va vb : Value} {bs ss : List Od} (h : BkA w B q va vb bs ss) (ht : Tch S w w') (hS : ∀ k, Nb q va vb k → ¬ S k) : BkA w' B q va vb bs ss :=
  ⟨h.bk.tch ht (hS _ (.inl rfl)), OwnG.tch h.ra ht fun k hk => hS k (.inr (.inl hk)), OwnG.tch h.rb ht fun k hk => hS k (.inr (.inr hk)), h.ap, h.hp⟩
theorem BkA.low {w : World} {B B' q : Nat} {va vb : Value} {bs ss : List Od} (h : BkA w B q va vb bs ss) (hB : B' ≤ B) : BkA w B' q va vb bs ss := ⟨h.bk, h.ra.mono hB, h.rb.mono hB, h.ap, Nat.le_trans hB h.hp⟩
theorem OwnO.offM {w : World} {B m : Nat} {v : Value} {l : List Od} {cs : Array Value} (h : OwnO w B v l) (hm : w.heap[m]? = some (.cells cs 62 (0, 0))) : v.ownBlock ≠ some m := by
  rcases h.2 with ⟨rfl, _⟩ | ⟨g, cap, cur, rfl, _, hg, _⟩
  · simp [Value.ownBlock]
  · intro e
    simp [Value.ownBlock] at e
    subst e
    rw [hm] at hg
    injection hg with h1
    injection h1 with h2 h3
    exact absurd h3 (by decide)
theorem BkQ.on {w w' : World} {q : Nat} {P : Pl} (h : BkQ w q P) (hb : Below w.heap.size w w') : BkQ w' q P := by
  obtain ⟨va, vb, h⟩ := h
  exact ⟨va, vb, h.on hb⟩
/-- A market's block is none of a book's. -/
theorem BkQ.tch {w w' : World} {q m : Nat} {P : Pl} {cs : Array Value} (h : BkQ w q P) (hm : w.heap[m]? = some (.cells cs 62 (0, 0))) (ht : Tch (fun k => k = m) w w') : BkQ w' q P := by
  obtain ⟨va, vb, h⟩ := h
  refine ⟨va, vb, h.bk.tch ht ?_, h.ra.tch ht fun k hk e => h.ra.offM hm (by rw [hk, e]), h.rb.tch ht fun k hk e => h.rb.offM hm (by rw [hk, e]), h.ap, h.hp⟩
  intro e
  have h1 := h.bk
  unfold Bk at h1
  rw [e, hm] at h1
  injection h1 with h2
  injection h2 with h3 h4
  exact absurd h4 (by decide)
theorem MkO.set {w : World} {m k : Nat} {V : Nat → Value × Value} (h : w.heap[m]? = some (MkO V)) (hk : k < 4) (x y : Value) : ((w.setCell ⟨m, 2 * k, none⟩ x).setCell ⟨m, 2 * k + 1, none⟩ y).heap[m]? = some (MkO (upd V k (x, y))) := by
  unfold MkO at h ⊢
  obtain rfl | rfl | rfl | rfl : k = 0 ∨ k = 1 ∨ k = 2 ∨ k = 3 := by omega
  all_goals simp [World.setCell, Array.getElem?_modify, h, upd]
theorem MkO.set1 {w : World} {m k : Nat} {V : Nat → Value × Value} (h : w.heap[m]? = some (MkO V)) (hk : k < 4) (x : Value) : (w.setCell ⟨m, 2 * k, none⟩ x).heap[m]? = some (MkO (upd V k (x, (V k).2))) := by
  unfold MkO at h ⊢
  obtain rfl | rfl | rfl | rfl : k = 0 ∨ k = 1 ∨ k = 2 ∨ k = 3 := by omega
  all_goals simp [World.setCell, Array.getElem?_modify, h, upd]
theorem MkO.cells {w : World} {m : Nat} {V : Nat → Value × Value} (h : w.heap[m]? = some (MkO V)) : m < w.heap.size ∧ (w.cell? ⟨m, 0, none⟩ = some (V 0).1 ∧ w.cell? ⟨m, 1, none⟩ = some (V 0).2 ∧ w.cell? ⟨m, 2, none⟩ = some (V 1).1 ∧ w.cell? ⟨m, 3, none⟩ = some (V 1).2 ∧ w.cell? ⟨m, 4, none⟩ = some (V 2).1 ∧ w.cell? ⟨m, 5, none⟩ = some (V 2).2 ∧ w.cell? ⟨m, 6, none⟩ = some (V 3).1 ∧ w.cell? ⟨m, 7, none⟩ = some (V 3).2) ∧ ∀ f, w.frozen? ⟨m, f, none⟩ = false := by
  unfold MkO at h
  refine ⟨(Array.getElem?_eq_some_iff.1 h).1, ⟨?_, ?_, ?_, ?_, ?_, ?_, ?_, ?_⟩, fun f => by simp [World.frozen?, h]⟩
  all_goals (rw [cellAt' h]; rfl)
/-- What is done of a market that is being made. -/
structure Mg (w wr : World) (k : Nat) (V : Nat → Value × Value) (P : Nat → Pl) : Prop where
  ob : wr.heap[w.heap.size]? = some (MkO V)
  at' : ∀ i, i < k → ∃ q, (V i).1 = ptr q ∧ (V i).2 = cx (P i) ∧ BkQ wr q (P i)
  be : Below w.heap.size w wr
theorem Mg.all {w wr : World} {V : Nat → Value × Value} {P : Nat → Pl} (h : Mg w wr 4 V P) : ∃ q, Mk wr w.heap.size q P := by
  obtain ⟨q0, a0, b0, c0⟩ := h.at' 0 (by omega)
  obtain ⟨q1, a1, b1, c1⟩ := h.at' 1 (by omega)
  obtain ⟨q2, a2, b2, c2⟩ := h.at' 2 (by omega)
  obtain ⟨q3, a3, b3, c3⟩ := h.at' 3 (by omega)
  refine ⟨fun i => match i with | 0 => q0 | 1 => q1 | 2 => q2 | _ => q3, ?_, fun i hi => ?_⟩
  · rw [h.ob]; unfold MkO; rw [a0, a1, a2, a3, b0, b1, b2, b3]; rfl
  · obtain rfl | rfl | rfl | rfl : i = 0 ∨ i = 1 ∨ i = 2 ∨ i = 3 := by omega
    · exact c0
    · exact c1
    · exact c2
    · exact c3
/-- One more of its places. -/
theorem Mg.next {w wr w2 : World} {k q : Nat} {V : Nat → Value × Value} {P : Nat → Pl} (h : Mg w wr k V P) (hk : k < 4) (hb : Below wr.heap.size wr w2) (hq : BkQ w2 q (P k)) : Mg w ((w2.setCell ⟨w.heap.size, 2 * k, none⟩ (ptr q)).setCell ⟨w.heap.size, 2 * k + 1, none⟩ (cx (P k))) (k + 1) (upd V k (ptr q, cx (P k))) P := by
  have hm := (Array.getElem?_eq_some_iff.1 h.ob).1
  have h2 : w2.heap[w.heap.size]? = some (MkO V) := obOn h.ob hb hm
  have ht : Tch (fun k => k = w.heap.size) w2 ((w2.setCell ⟨w.heap.size, 2 * k, none⟩ (ptr q)).setCell ⟨w.heap.size, 2 * k + 1, none⟩ (cx (P k))) := (Tch.set (S := fun k => k = w.heap.size) w2 _ _ rfl).trans (Tch.set (S := fun k => k = w.heap.size) _ _ _ rfl)
  refine ⟨MkO.set h2 hk _ _, fun i hi => ?_, ((h.be.trans (hb.mono h.be.size)).setCell (Nat.le_refl _) _).setCell (Nat.le_refl _) _⟩
  by_cases e : i = k
  · subst e; rw [upd_at]; exact ⟨q, rfl, rfl, hq.tch h2 ht⟩
  · rw [upd_off V _ e]
    obtain ⟨q', a, b, c⟩ := h.at' i (by omega)
    exact ⟨q', a, b, (c.on hb).tch h2 ht⟩
theorem Mg.next1 {w wr w2 : World} {k q : Nat} {V : Nat → Value × Value} {P : Nat → Pl} (h : Mg w wr k V P) (hk : k < 4) (hb : Below wr.heap.size wr w2) (hq : BkQ w2 q (P k)) (hV : ∀ i, k ≤ i → (V i).2 = cx (P i)) : Mg w (w2.setCell ⟨w.heap.size, 2 * k, none⟩ (ptr q)) (k + 1) (upd V k (ptr q, (V k).2)) P := by
  have hm := (Array.getElem?_eq_some_iff.1 h.ob).1
  have h2 : w2.heap[w.heap.size]? = some (MkO V) := obOn h.ob hb hm
  have ht : Tch (fun k => k = w.heap.size) w2 (w2.setCell ⟨w.heap.size, 2 * k, none⟩ (ptr q)) := Tch.set w2 _ _ rfl
  refine ⟨MkO.set1 h2 hk _, fun i hi => ?_, (h.be.trans (hb.mono h.be.size)).setCell (Nat.le_refl _) _⟩
  by_cases e : i = k
  · subst e; rw [upd_at]; exact ⟨q, rfl, hV i (Nat.le_refl _), hq.tch h2 ht⟩
  · rw [upd_off V _ e]
    obtain ⟨q', a, b, c⟩ := h.at' i (by omega)
    exact ⟨q', a, b, (c.on hb).tch h2 ht⟩

set_option maxHeartbeats 1600000 in
set_option maxRecDepth 100000 in
theorem cCopied {w : World} {q : Nat} {P : Pl} (h : BkQ w q P) (hF : FineB P.bs P.ss) : Calls Try.prog 17 #[plV q P] w fun e w' => ∃ q', e = .returned (plV q' P) ∧ (∃ va vb, BkA w' w.heap.size q' va vb P.bs P.ss) ∧ Below w.heap.size w w' := by
  obtain ⟨va, vb, hK⟩ := h
  have HC : Hid (∀ W, Below w.heap.size w W → Calls Try.prog 31 #[ptr q] W fun e w' => e = .returned (ptr W.heap.size) ∧ (∃ va' vb', BkA w' W.heap.size W.heap.size va' vb' P.bs P.ss) ∧ Below W.heap.size W w') := hid fun W hW => cBClone (hK.on hW) hF.lens
  clear hK hF
  go_enter Try.func17, Try.ntmps17
  go_wp2_with fail
  go_at_call 31
  obtain ⟨W, hW⟩ : ∃ W, W = (w.alloc (.cells #[ptr q, cx P] 59)).alloc (.cells #[.pointer none, .complex .f64 0 0] 59) := ⟨_, rfl⟩
  have hBW : Below w.heap.size w W := by rw [hW]; exact ((Below.refl _ w).alloc (Nat.le_refl _) _).alloc (by simp) _
  have b1 : W.heap[w.heap.size]? = some (.cells #[ptr q, cx P] 59 (0, 0)) := by rw [hW]; exact obAlloc (heap_alloc_new w _)
  have b2 : W.heap[w.heap.size + 1]? = some (.cells #[.pointer none, .complex .f64 0 0] 59 (0, 0)) := by
    rw [hW, show w.heap.size + 1 = (w.alloc (.cells #[ptr q, cx P] 59)).heap.size by simp]; exact heap_alloc_new _ _
  have hsz : W.heap.size = w.heap.size + 2 := by rw [hW]; simp
  rw [← hW]
  refine (HC.out W hBW).mono ?_
  rintro e w2 ⟨rfl, ⟨va', vb', hK2⟩, hB2⟩
  have k1 := obOn b1 hB2 (by omega)
  have k2 := obOn b2 hB2 (by omega)
  have j0 := cellAt' k1 0
  have j1 := cellAt' k1 1
  have i0 := cellAt' k2 0
  have i1 := cellAt' k2 1
  simp at j0 j1 i0 i1
  have f1 : ∀ f, w2.frozen? ⟨w.heap.size, f, none⟩ = false := fun f => by simp [World.frozen?, k1]
  have f2 : ∀ f, w2.frozen? ⟨w.heap.size + 1, f, none⟩ = false := fun f => by simp [World.frozen?, k2]
  have HK2 := hid hK2
  have HB2 := hid (hBW.trans (hB2.mono hBW.size))
  have HS := hid hsz
  clear hK2 hB2 k1 k2 b1 b2 hBW hW hsz
  have hst := stC P.vol P.val
  go_wp2_with fail
  refine bodyPost_ret (v := plV W.heap.size P) (by simp [results, Try.results17, go_sem, j0, j1, i0, i1]) rfl ⟨W.heap.size, rfl, ⟨va', vb', ?_⟩, ?_⟩
  · have hs := HS.out
    refine (BkA.tch (S := fun k => k < W.heap.size) HK2.out (((Tch.set _ _ _ ?_).trans (Tch.set _ _ _ ?_)).trans (Tch.set _ _ _ ?_)) fun k hk hS => ?_).low (by omega)
    · show w.heap.size < W.heap.size; omega
    · show w.heap.size + 1 < W.heap.size; omega
    · show w.heap.size + 1 < W.heap.size; omega
    · have := (HK2.out.nb k hk).1; omega
  · exact ((HB2.out.setCell (Nat.le_refl _) _).setCell (show w.heap.size ≤ w.heap.size + 1 by omega) _).setCell (show w.heap.size ≤ w.heap.size + 1 by omega) _

theorem zero_place : (.complex .f64 0 0 : Value) = cx Pl.none := by
  have : FN 0 = 0 := by decide
  show _ = Value.complex .f64 (FN 0) (FN 0)
  rw [this]
theorem undrew {B : Nat} {w w' : World} (h : Below B w.drew w') : Below B w w' := ⟨h.1, h.2, h.3, h.4, h.5⟩
def Ng (w wr : World) (k : Nat) : Prop := ∃ V, Mg w wr k V (fun _ => Pl.none) ∧ ∀ i : Nat, (V i).2 = cx Pl.none
theorem MkO.at2 {w : World} {m k : Nat} {V : Nat → Value × Value} (h : w.heap[m]? = some (MkO V)) (hk : k < 4) : (w.cell? ⟨m, 2 * k, none⟩ = some (V k).1 ∧ w.cell? ⟨m, 2 * k + 1, none⟩ = some (V k).2) ∧ ∀ f, w.frozen? ⟨m, f, none⟩ = false := by
  obtain ⟨_, ⟨g0, g1, g2, g3, g4, g5, g6, g7⟩, fz⟩ := MkO.cells h
  refine ⟨?_, fz⟩
  obtain rfl | rfl | rfl | rfl : k = 0 ∨ k = 1 ∨ k = 2 ∨ k = 3 := by omega
  · exact ⟨g0, g1⟩
  · exact ⟨g2, g3⟩
  · exact ⟨g4, g5⟩
  · exact ⟨g6, g7⟩
theorem Ng.step {w wr w2 : World} {k : Nat} {u v : Value} (h : Ng w wr k) (hk : k < 4) (hB : Below wr.drew.heap.size wr.drew w2) (hK : BkA w2 wr.drew.heap.size wr.drew.heap.size u v [] []) :
    Ng w (w2.setCell ⟨w.heap.size, 2 * k, none⟩ (ptr wr.drew.heap.size)) (k + 1) ∧ (∃ x, w2.cell? ⟨w.heap.size, 2 * k, none⟩ = some x) ∧ ∀ f, w2.frozen? ⟨w.heap.size, f, none⟩ = false := by
  obtain ⟨V, hM, hV⟩ := h
  have hb : Below wr.heap.size wr w2 := undrew hB
  have hx := MkO.at2 (obOn hM.ob hb (Array.getElem?_eq_some_iff.1 hM.ob).1) hk
  refine ⟨⟨_, hM.next1 hk hb ⟨_, _, hK.low (Nat.zero_le _)⟩ (fun i _ => hV i), fun i => ?_⟩, ⟨_, hx.1.1⟩, hx.2⟩
  by_cases e : i = k
  · subst e; rw [upd_at]; exact hV _
  · rw [upd_off _ _ e]; exact hV _
set_option maxHeartbeats 3200000 in
set_option maxRecDepth 100000 in
theorem cMNew (w : World) : Calls Try.prog 6 #[] w fun e w' => e = .returned (ptr w.heap.size) ∧ (∃ q, Mk w' w.heap.size q fun _ => Pl.none) ∧ Below w.heap.size w w' := by
  go_enter Try.func6, Try.ntmps6
  go_wp2_with fail
  have HI0 : Hid (Ng w (w.alloc (.cells #[.pointer none, .complex .f64 0 0, .pointer none, .complex .f64 0 0, .pointer none, .complex .f64 0 0, .pointer none, .complex .f64 0 0] 62)) 0) := hid ⟨fun _ => (.pointer none, .complex .f64 0 0), ⟨heap_alloc_new w _, fun i hi => absurd hi (Nat.not_lt_zero _), (Below.refl _ w).alloc (Nat.le_refl _) _⟩, fun i => zero_place⟩
  go_loopg [2, 5] 4 (fun gg s2 s5 wr => ∃ k : Nat, k ≤ 4 ∧ 4 - k ≤ gg ∧ s5 = .int .i64 k ∧ Hid (Ng w wr k))
  case atStart => exact ⟨0, by omega, by omega, rfl, HI0⟩
  case round =>
    obtain ⟨k, hk, hg, rfl, HI⟩ := hrel
    clear HI0
    obtain rfl | rfl | rfl | rfl | rfl : k = 0 ∨ k = 1 ∨ k = 2 ∨ k = 3 ∨ k = 4 := by omega
    · go_wp2_with fail
      go_region_law (first
        | (go_simp; go_at_call 16; (
            refine (cNew _).mono ?_
            rintro e w2 ⟨rfl, hK, hB⟩
            have hx : Ng w (w2.setCell ⟨w.heap.size, 0, none⟩ (ptr wr.drew.heap.size)) 1 ∧ (∃ x, w2.cell? ⟨w.heap.size, 0, none⟩ = some x) ∧ ∀ f, w2.frozen? ⟨w.heap.size, f, none⟩ = false := Ng.step (k := 0) HI.out (by omega) hB hK
            obtain ⟨h1, ⟨x0, h2⟩, h3⟩ := hx
            have HX := hid h1
            clear h1 hK hB)))
      all_goals (
        go_wp2_with fail
        go_roundg 3
        case measure => omega
        case rel => exact ⟨1, by omega, by omega, by go_num, HX⟩)
    · go_wp2_with fail
      go_region_law (first
        | (go_simp; go_at_call 16; (
            refine (cNew _).mono ?_
            rintro e w2 ⟨rfl, hK, hB⟩
            have hx : Ng w (w2.setCell ⟨w.heap.size, 2, none⟩ (ptr wr.drew.heap.size)) 2 ∧ (∃ x, w2.cell? ⟨w.heap.size, 2, none⟩ = some x) ∧ ∀ f, w2.frozen? ⟨w.heap.size, f, none⟩ = false := Ng.step (k := 1) HI.out (by omega) hB hK
            obtain ⟨h1, ⟨x0, h2⟩, h3⟩ := hx
            have HX := hid h1
            clear h1 hK hB)))
      all_goals (
        go_wp2_with fail
        go_roundg 2
        case measure => omega
        case rel => exact ⟨2, by omega, by omega, by go_num, HX⟩)
    · go_wp2_with fail
      go_region_law (first
        | (go_simp; go_at_call 16; (
            refine (cNew _).mono ?_
            rintro e w2 ⟨rfl, hK, hB⟩
            have hx : Ng w (w2.setCell ⟨w.heap.size, 4, none⟩ (ptr wr.drew.heap.size)) 3 ∧ (∃ x, w2.cell? ⟨w.heap.size, 4, none⟩ = some x) ∧ ∀ f, w2.frozen? ⟨w.heap.size, f, none⟩ = false := Ng.step (k := 2) HI.out (by omega) hB hK
            obtain ⟨h1, ⟨x0, h2⟩, h3⟩ := hx
            have HX := hid h1
            clear h1 hK hB)))
      all_goals (
        go_wp2_with fail
        go_roundg 1
        case measure => omega
        case rel => exact ⟨3, by omega, by omega, by go_num, HX⟩)
    · go_wp2_with fail
      go_region_law (first
        | (go_simp; go_at_call 16; (
            refine (cNew _).mono ?_
            rintro e w2 ⟨rfl, hK, hB⟩
            have hx : Ng w (w2.setCell ⟨w.heap.size, 6, none⟩ (ptr wr.drew.heap.size)) 4 ∧ (∃ x, w2.cell? ⟨w.heap.size, 6, none⟩ = some x) ∧ ∀ f, w2.frozen? ⟨w.heap.size, f, none⟩ = false := Ng.step (k := 3) HI.out (by omega) hB hK
            obtain ⟨h1, ⟨x0, h2⟩, h3⟩ := hx
            have HX := hid h1
            clear h1 hK hB)))
      all_goals (
        go_wp2_with fail
        go_roundg 0
        case measure => omega
        case rel => exact ⟨4, by omega, by omega, by go_num, HX⟩)
    · obtain ⟨V, hM, hV⟩ := HI.out
      have HM := hid hM
      clear hM hV HI
      go_wp2_with fail
      go_ret
      exact ⟨rfl, HM.out.all, HM.out.be⟩
end Go.Proofs.Ytdgllpfccdbdnaa

