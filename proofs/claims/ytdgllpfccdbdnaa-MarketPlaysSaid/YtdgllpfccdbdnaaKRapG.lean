/- The document's market: Apply, whatever the command. -/
import Derived.Test.YtdgllpfccdbdnaaKPlc
import Derived.Test.YtdgllpfccdbdnaaKApplyG
import Derived.Test.YtdgllpfccdbdnaaKRelP
import Derived.Test.YtdgllpfccdbdnaaKRef3
import Derived.Test.YtdgllpfccdbdnaaKStep
import Derived.Test.YtdgllpfccdbdnaaKPlace0
import Derived.Test.YtdgllpfccdbdnaaKPlace1
/- The document's market: its block, its books; Apply on the way. -/
namespace Go.Proofs.Ytdgllpfccdbdnaa
set_option linter.unusedVariables false
set_option linter.unusedSimpArgs false
open Go.RowKit
open Go.Lib (hid)

def RMO (v : Nat → Value) (P : Nat → Pl) : Obj := .cells #[v 0, v 1, v 2, v 3, .int .i64 (P 0).vol, .int .i64 (P 1).vol, .int .i64 (P 2).vol, .int .i64 (P 3).vol, .int .i64 (P 0).val, .int .i64 (P 1).val, .int .i64 (P 2).val, .int .i64 (P 3).val] 33 (0, 0)
/-- The document's market: of each symbol a list, and what was turned over. -/
structure RM (w : World) (x : Nat) (v : Nat → Value) (L : Nat → List Od) (P : Nat → Pl) : Prop where
  ob : w.heap[x]? = some (RMO v P)
  row : ∀ i, i < 4 → OwnR w 0 (v i) (L i)
  rel : ∀ i, i < 4 → Rel (L i) (P i).bs (P i).ss
theorem RM.cells {w : World} {x : Nat} {v : Nat → Value} {L : Nat → List Od} {P : Nat → Pl} (h : RM w x v L P) {s : Nat} (hs : s < 4) : x < w.heap.size ∧ w.cell? ⟨x, s, none⟩ = some (v s) ∧ w.cell? ⟨x, 4 + s, none⟩ = some (.int .i64 (P s).vol) ∧ w.cell? ⟨x, 8 + s, none⟩ = some (.int .i64 (P s).val) ∧ ∀ f, w.frozen? ⟨x, f, none⟩ = false := by
  have h0 := h.ob
  unfold RMO at h0
  refine ⟨(Array.getElem?_eq_some_iff.1 h0).1, ?_, ?_, ?_, fun f => by simp [World.frozen?, h0]⟩ <;>
    (rw [cellAt' h0]; obtain rfl | rfl | rfl | rfl : s = 0 ∨ s = 1 ∨ s = 2 ∨ s = 3 := by omega) <;> rfl
theorem RM.on {w w' : World} {x : Nat} {v : Nat → Value} {L : Nat → List Od} {P : Nat → Pl} (h : RM w x v L P) (hb : Below w.heap.size w w') : RM w' x v L P :=
  ⟨obOn h.ob hb (Array.getElem?_eq_some_iff.1 h.ob).1, fun i hi => OwnG.on (h.row i hi) hb, h.rel⟩
theorem RMO.set {w : World} {x s : Nat} {v : Nat → Value} {P : Nat → Pl} (h : w.heap[x]? = some (RMO v P)) (hs : s < 4) (r : Value) (p : Pl) :
    (((w.setCell ⟨x, s, none⟩ r).setCell ⟨x, 4 + s, none⟩ (.int .i64 p.vol)).setCell ⟨x, 8 + s, none⟩ (.int .i64 p.val)).heap[x]? = some (RMO (upd v s r) (upd P s p)) := by
  unfold RMO at h ⊢
  obtain rfl | rfl | rfl | rfl : s = 0 ∨ s = 1 ∨ s = 2 ∨ s = 3 := by omega
  all_goals simp [World.setCell, Array.getElem?_modify, h, upd]
/-- The market turned at a symbol. -/
theorem RM.put {w : World} {x s : Nat} {v : Nat → Value} {L : Nat → List Od} {P : Nat → Pl} (h : RM w x v L P) (hs : s < 4) {B : Nat} {r : Value} {L' : List Od} (hr : OwnR w B r L') (p : Pl) (hp : Rel L' p.bs p.ss) :
    RM (((w.setCell ⟨x, s, none⟩ r).setCell ⟨x, 4 + s, none⟩ (.int .i64 p.vol)).setCell ⟨x, 8 + s, none⟩ (.int .i64 p.val)) x (upd v s r) (upd L s L') (upd P s p) ∧
    Tch (fun k => k = x) w (((w.setCell ⟨x, s, none⟩ r).setCell ⟨x, 4 + s, none⟩ (.int .i64 p.vol)).setCell ⟨x, 8 + s, none⟩ (.int .i64 p.val)) := by
  have ht : Tch (fun k => k = x) w (((w.setCell ⟨x, s, none⟩ r).setCell ⟨x, 4 + s, none⟩ (.int .i64 p.vol)).setCell ⟨x, 8 + s, none⟩ (.int .i64 p.val)) := ((Tch.set (S := fun k => k = x) _ _ _ rfl).trans (Tch.set (S := fun k => k = x) _ _ _ rfl)).trans (Tch.set (S := fun k => k = x) _ _ _ rfl)
  have ho := h.ob
  unfold RMO at ho
  refine ⟨⟨RMO.set h.ob hs r p, fun i hi => ?_, fun i hi => ?_⟩, ht⟩
  · by_cases e : i = s
    · subst e; rw [upd_at, upd_at]
      exact OwnG.mono (OwnG.tch hr ht fun k hk e => own_offT hr ho (by decide) (by rw [hk, e])) (Nat.zero_le _)
    · rw [upd_off _ _ e, upd_off _ _ e]
      exact OwnG.tch (h.row i hi) ht fun k hk e => own_offT (h.row i hi) ho (by decide) (by rw [hk, e])
  · by_cases e : i = s
    · subst e; rw [upd_at, upd_at]; exact hp
    · rw [upd_off _ _ e, upd_off _ _ e]; exact h.rel i hi
/-- What the document's Apply tells and leaves. -/
def RAppl (w w' : World) (x : Nat) (e : Ending) (r : Int × List Fl × Int × (Nat → Pl)) : Prop :=
  ∃ f v' L', e = .returned (rpV r.1 f r.2.2.1) ∧ OwnF w' w.heap.size f r.2.1 ∧ RM w' x v' L' r.2.2.2 ∧ Tch (fun k => k = x) w w'

/-- Ahead of what the book does. -/
structure Rp (w W : World) (c : C7) (N7 N8 : Nat) (v : Value) (L : List Od) : Prop where
  ap : Ap w W c
  h7 : w.heap.size + 2 ≤ N7
  h8 : w.heap.size + 2 ≤ N8
  ne : N8 ≠ N7
  rb : RB W N7 v
  n8 : W.heap[N8]? = some box3
  row : OwnR W 0 v L
/-- Behind it. -/
structure Rq (w W : World) (c : C7) (N7 N8 : Nat) (v f : Value) (err left : Int) (fs : List Fl) (L : List Od) : Prop where
  ap : Ap w W c
  h7 : w.heap.size + 2 ≤ N7
  h8 : w.heap.size + 2 ≤ N8
  rb : RB W N7 v
  n8 : W.heap[N8]? = some (.cells #[.int .i64 err, f, .int .i64 left] 37 (0, 0))
  row : OwnR W 0 v L
  fl : OwnF W (w.heap.size + 2) f fs
theorem Rp.start {w w1 w2 : World} {c : C7} {v2 : Value} {L : List Od} (h : Ap w w1 c) (hs : w.heap.size + 2 ≤ w1.heap.size) (hb : Below w1.heap.size w1 w2) (hr : OwnR w2 w1.heap.size v2 L) :
    Rp w ((w2.alloc (.cells #[v2] 29)).alloc box3) c w2.heap.size (w2.heap.size + 1) v2 L := by
  have h1 : Below w2.heap.size w2 ((w2.alloc (.cells #[v2] 29)).alloc box3) := ((Below.refl _ w2).alloc (Nat.le_refl _) _).alloc (by simp) _
  have h2 := hb.size
  exact ⟨h.below ((hb.mono hs).trans (h1.mono (by omega))), by omega, by omega, by omega, obAlloc (heap_alloc_new w2 _), by
    rw [show w2.heap.size + 1 = (w2.alloc (.cells #[v2] 29)).heap.size by simp]; exact heap_alloc_new _ _, OwnG.mono (OwnG.on hr h1) (Nat.zero_le _)⟩
theorem Rp.act {w W w3 : World} {c : C7} {N7 N8 : Nat} {v : Value} {L : List Od} {e : Ending} {r : Res} (h : Rp w W c N7 N8 v L) (hd : DocTo W w3 N7 e r) :
    ∃ fa fn fc v' L', e = .returned (rpV r.1 (.slice fa fn fc) r.2.2.1) ∧ w3.heap[N8]? = some box3 ∧ fn = r.2.1.length ∧ Rel L' r.2.2.2.1 r.2.2.2.2 ∧
      Rq w (((w3.setCell ⟨N8, 0, none⟩ (.int .i64 r.1)).setCell ⟨N8, 1, none⟩ (.slice fa fn fc)).setCell ⟨N8, 2, none⟩ (.int .i64 r.2.2.1)) c N7 N8 v' (.slice fa fn fc) r.1 r.2.2.1 r.2.1 L' := by
  obtain ⟨f, L', rfl, hf, ⟨v', hrb, hrow, hT⟩, hR⟩ := hd
  obtain ⟨fa, fc, fn, rfl, hn⟩ := hf.asSlice
  have hW : w.heap.size + 2 ≤ W.heap.size := by have := (Array.getElem?_eq_some_iff.1 h.n8).1; have := h.h8; omega
  have h8 : w3.heap[N8]? = some box3 := hT.ob h.n8 h.ne
  have hN8 := h.h8
  have hlt := (Array.getElem?_eq_some_iff.1 h.n8).1
  have ht : Tch (fun k => k = N8) w3 (((w3.setCell ⟨N8, 0, none⟩ (.int .i64 r.1)).setCell ⟨N8, 1, none⟩ (.slice fa fn fc)).setCell ⟨N8, 2, none⟩ (.int .i64 r.2.2.1)) :=
    ((Tch.set (S := fun k => k = N8) _ _ _ rfl).trans (Tch.set (S := fun k => k = N8) _ _ _ rfl)).trans (Tch.set (S := fun k => k = N8) _ _ _ rfl)
  refine ⟨fa, fn, fc, v', L', rfl, h8, hn, hR, h.ap.below ((hT.below (fun k hk => by have := h.h7; omega) hW).trans (ht.below (fun k hk => by omega) (Nat.le_trans hW hT.size))), h.h7, h.h8, ht.ob hrb (fun e => h.ne e.symm), ?_, OwnG.tch hrow ht fun k hk e => own_offT hrow h8 (by decide) (by rw [hk, e]), OwnG.mono (OwnG.tch hf ht fun k hk e => by have := (OwnG.lt hf k hk).1; omega) hW⟩
  simp [World.setCell, Array.getElem?_modify, h8]
theorem Rq.on {w W W' : World} {c : C7} {N7 N8 : Nat} {v f : Value} {err left : Int} {fs : List Fl} {L : List Od} (h : Rq w W c N7 N8 v f err left fs L) (hb : Below W.heap.size W W') : Rq w W' c N7 N8 v f err left fs L := by
  have hW : w.heap.size + 2 ≤ W.heap.size := by have := (Array.getElem?_eq_some_iff.1 h.n8).1; have := h.h8; omega
  exact ⟨h.ap.below (hb.mono hW), h.h7, h.h8, h.rb.on hb, obOn h.n8 hb (Array.getElem?_eq_some_iff.1 h.n8).1, OwnG.on h.row hb, OwnG.on h.fl hb⟩
theorem Rq.rep {w W : World} {c : C7} {N7 N8 : Nat} {v f : Value} {err left : Int} {fs : List Fl} {L : List Od} (h : Rq w W c N7 N8 v f err left fs L) :
    W.cell? ⟨N8, 0, none⟩ = some (.int .i64 err) ∧ W.cell? ⟨N8, 1, none⟩ = some f ∧ W.cell? ⟨N8, 2, none⟩ = some (.int .i64 left) := by
  have h0 := h.n8
  exact ⟨by rw [cellAt' h0]; rfl, by rw [cellAt' h0]; rfl, by rw [cellAt' h0]; rfl⟩
/-- The end: the market has the book, the reply's box the reply. -/
theorem Rq.fin {w W : World} {c : C7} {N7 N8 x s : Nat} {v f : Value} {err left : Int} {fs : List Fl} {L' : List Od} {vM : Nat → Value} {L : Nat → List Od} {P : Nat → Pl} (h : Rq w W c N7 N8 v f err left fs L') (hM : RM w x vM L P) (hs : s < 4) (p : Pl) (hp : Rel L' p.bs p.ss) (a b d : Value) :
    OwnF ((((((W.setCell ⟨x, s, none⟩ v).setCell ⟨x, 4 + s, none⟩ (.int .i64 p.vol)).setCell ⟨x, 8 + s, none⟩ (.int .i64 p.val)).setCell ⟨w.heap.size + 1, 0, none⟩ a).setCell ⟨w.heap.size + 1, 1, none⟩ b).setCell ⟨w.heap.size + 1, 2, none⟩ d) w.heap.size f fs ∧
    RM ((((((W.setCell ⟨x, s, none⟩ v).setCell ⟨x, 4 + s, none⟩ (.int .i64 p.vol)).setCell ⟨x, 8 + s, none⟩ (.int .i64 p.val)).setCell ⟨w.heap.size + 1, 0, none⟩ a).setCell ⟨w.heap.size + 1, 1, none⟩ b).setCell ⟨w.heap.size + 1, 2, none⟩ d) x (upd vM s v) (upd L s L') (upd P s p) ∧
    Tch (fun k => k = x) w ((((((W.setCell ⟨x, s, none⟩ v).setCell ⟨x, 4 + s, none⟩ (.int .i64 p.vol)).setCell ⟨x, 8 + s, none⟩ (.int .i64 p.val)).setCell ⟨w.heap.size + 1, 0, none⟩ a).setCell ⟨w.heap.size + 1, 1, none⟩ b).setCell ⟨w.heap.size + 1, 2, none⟩ d) := by
  have hx : x < w.heap.size := (Array.getElem?_eq_some_iff.1 hM.ob).1
  have hMW := hM.on h.ap.be
  obtain ⟨h1, ht⟩ := hMW.put hs h.row p hp
  obtain ⟨W1, hW1⟩ : ∃ W1, W1 = ((W.setCell ⟨x, s, none⟩ v).setCell ⟨x, 4 + s, none⟩ (.int .i64 p.vol)).setCell ⟨x, 8 + s, none⟩ (.int .i64 p.val) := ⟨_, rfl⟩
  rw [← hW1] at h1 ht ⊢
  have n1 : W1.heap[w.heap.size + 1]? = some box3 := ht.ob h.ap.n1 (by omega)
  have hf : OwnF W1 (w.heap.size + 2) f fs := OwnG.tch h.fl ht fun k hk e => by have := (OwnG.lt h.fl k hk).1; omega
  have ht2 : Tch (fun k => k = w.heap.size + 1) W1 (((W1.setCell ⟨w.heap.size + 1, 0, none⟩ a).setCell ⟨w.heap.size + 1, 1, none⟩ b).setCell ⟨w.heap.size + 1, 2, none⟩ d) :=
    ((Tch.set (S := fun k => k = w.heap.size + 1) _ _ _ rfl).trans (Tch.set (S := fun k => k = w.heap.size + 1) _ _ _ rfl)).trans (Tch.set (S := fun k => k = w.heap.size + 1) _ _ _ rfl)
  refine ⟨OwnG.mono (OwnG.tch hf ht2 fun k hk e => by have := (OwnG.lt hf k hk).1; omega) (by omega), ⟨ht2.ob h1.ob (by omega), fun i hi => OwnG.tch (h1.row i hi) ht2 fun k hk e => own_offT (h1.row i hi) n1 (by decide) (by rw [hk, e]), h1.rel⟩, ((Tch.ofBelow h.ap.be).trans ht).next ht2 fun k hk => .inr (by omega)⟩
end Go.Proofs.Ytdgllpfccdbdnaa
/- The document's book: Amend, with an error. -/
namespace Go.Proofs.Ytdgllpfccdbdnaa
set_option linter.unusedVariables false
set_option linter.unusedSimpArgs false
open Go.RowKit
open Go.Lib (hid)

set_option maxHeartbeats 12800000 in
set_option maxRecDepth 100000 in
theorem rAmend_no {w : World} {b B : Nat} {v : Value} {L : List Od} (hb : RB w b v) (h : OwnR w B v L) (hl : L.length ≤ 1000) (id q : Int) (h0 : (q < 1 ∨ 1048576 < q) ∨ L.any (isI id) = false) : Calls Try.prog 26 #[ptr b, .int .i64 id, .int .i64 q] w fun e w' => e = .returned (rpV (refAmend L id q).1 (.slice none 0 0) (refAmend L id q).2.1) ∧ RTo w w' b (refAmend L id q).2.2 := by
  have hB : Below w.heap.size w (w.alloc box3) := (Below.refl _ w).alloc (Nat.le_refl _) _
  have HF := hid (rFind (hb.on hB) (h.on hB) hl id)
  have HB := hid hB
  have HRB := hid hb
  have HOW := hid h
  have HO1 := hid (h.on hB)
  have HLL := hid hl
  obtain ⟨hlt, c0, _⟩ := (hb.on hB).cells
  have hbw := hb.cells.1
  obtain ⟨a, n, c, rfl, hn, hx⟩ := OwnR.at (h.on hB)
  have hq := heap_alloc_new w box3
  have HQ := hid hq
  by_cases hq1 : q < 1
  · generalize idxO (isI id) L = zz at HF
    have hE : refAmend L id q = (7, 0, L) := by unfold refAmend; rw [if_pos hq1]
    rw [hE]
    clear h hb hx hn hB hE
    go_enter Try.func26, Try.ntmps26
    go_wp2_with fail
    go_at_call 42
    refine HF.out.mono ?_
    rintro e w1 ⟨rfl, rfl⟩
    obtain ⟨⟨j0, j1, j2⟩, fz, hz⟩ := box3_at hq
    generalize w.alloc box3 = W at HB HQ hlt c0 hq j0 j1 j2 fz hz ⊢
    clear hq
    go_wp2_with fail
    refine bodyPost_ret (v := rpV 7 (.slice none 0 0) 0) (by simp [results, Try.results26, go_sem, j0, j1, j2]) rfl ⟨rfl, ?_⟩
    exact RTo.same HRB.out HOW.out (below3 HB.out (Nat.le_refl _) _ _ _)
  by_cases hq2 : 1048576 < q
  · generalize idxO (isI id) L = zz at HF
    have hE : refAmend L id q = (1, 0, L) := by unfold refAmend; rw [if_neg hq1, if_pos hq2]
    rw [hE]
    clear h hb hx hn hB hE
    go_enter Try.func26, Try.ntmps26
    go_wp2_with fail
    go_at_call 42
    refine HF.out.mono ?_
    rintro e w1 ⟨rfl, rfl⟩
    obtain ⟨⟨j0, j1, j2⟩, fz, hz⟩ := box3_at hq
    generalize w.alloc box3 = W at HB HQ hlt c0 hq j0 j1 j2 fz hz ⊢
    clear hq
    go_wp2_with fail
    refine bodyPost_ret (v := rpV 1 (.slice none 0 0) 0) (by simp [results, Try.results26, go_sem, j0, j1, j2]) rfl ⟨rfl, ?_⟩
    exact RTo.same HRB.out HOW.out (below3 HB.out (Nat.le_refl _) _ _ _)
  rcases idx_cases L id with ⟨ha, hi, o, ho⟩ | ⟨ha, hi⟩
  · rw [ha] at h0; rcases h0 with (h0 | h0) | h0 <;> first | omega | cases h0
  · rw [hi] at HF
    have hE : refAmend L id q = (5, 0, L) := by unfold refAmend; rw [if_neg hq1, if_neg hq2, ha]; rfl
    rw [hE]
    clear h hb hx hn hB hE
    go_enter Try.func26, Try.ntmps26
    go_wp2_with fail
    go_at_call 42
    refine HF.out.mono ?_
    rintro e w1 ⟨rfl, rfl⟩
    obtain ⟨⟨j0, j1, j2⟩, fz, hz⟩ := box3_at hq
    generalize w.alloc box3 = W at HB HQ hlt c0 hq j0 j1 j2 fz hz ⊢
    clear hq
    go_wp2_with fail
    refine bodyPost_ret (v := rpV 5 (.slice none 0 0) 0) (by simp [results, Try.results26, go_sem, j0, j1, j2]) rfl ⟨rfl, ?_⟩
    exact RTo.same HRB.out HOW.out (below3 HB.out (Nat.le_refl _) _ _ _)
end Go.Proofs.Ytdgllpfccdbdnaa
/- The document's book: Amend to more. -/
namespace Go.Proofs.Ytdgllpfccdbdnaa
set_option linter.unusedVariables false
set_option linter.unusedSimpArgs false
open Go.RowKit
open Go.Lib (hid)

set_option maxHeartbeats 12800000 in
set_option maxRecDepth 100000 in
theorem rAmend_more {w : World} {b B : Nat} {v : Value} {L : List Od} (hb : RB w b v) (h : OwnR w B v L) (hl : L.length ≤ 1000) (id q : Int) (hq1 : ¬ q < 1) (hq2 : ¬ 1048576 < q) (o : Od) (ha : L.any (isI id) = true) (hi : idxO (isI id) L = (L.findIdx (isI id) : Nat)) (ho : L[L.findIdx (isI id)]? = some o) (hm : o.n < q) : Calls Try.prog 26 #[ptr b, .int .i64 id, .int .i64 q] w fun e w' => e = .returned (rpV (refAmend L id q).1 (.slice none 0 0) (refAmend L id q).2.1) ∧ RTo w w' b (refAmend L id q).2.2 := by
  have hB : Below w.heap.size w (w.alloc box3) := (Below.refl _ w).alloc (Nat.le_refl _) _
  have HF := hid (rFind (hb.on hB) (h.on hB) hl id)
  have HB := hid hB
  have HRB := hid hb
  have HOW := hid h
  have HO1 := hid (h.on hB)
  have HLL := hid hl
  obtain ⟨hlt, c0, _⟩ := (hb.on hB).cells
  have hbw := hb.cells.1
  obtain ⟨a, n, c, rfl, hn, hx⟩ := OwnR.at (h.on hB)
  have hq := heap_alloc_new w box3
  have HQ := hid hq
  rw [hi] at HF
  have hk := (List.getElem?_eq_some_iff.1 ho).1
  obtain ⟨g, rfl, hg, k0, k1, k2, k3⟩ := hx _ _ ho
  have hE : refAmend L id q = (0, q, if o.n < q then less L (L.findIdx (isI id)) ++ [{ o with n := q }] else L.set (L.findIdx (isI id)) { o with n := q }) := by unfold refAmend; rw [if_neg hq1, if_neg hq2, ha, ho]; rfl
  rw [hE]
  have HO := hid ho
  generalize L.findIdx (isI id) = z at HF hk k0 k1 k2 k3 HO ⊢
  have hzn : (z : Int) < (n : Int) := by omega
  have hz0 : ¬ (z : Int) < 0 := by omega
  have hn1 : n ≤ 1000 := by omega
  clear h hb ha hi hx hn hB hE ho hk
  obtain ⟨W, hW⟩ : ∃ W, W = w.alloc box3 := ⟨_, rfl⟩
  have HQW : Hid (W.heap[w.heap.size]? = some box3) := hid (by rw [hW]; exact HQ.out)
  rw [if_pos hm]
  go_enter Try.func26, Try.ntmps26
  go_wp2_with fail
  go_at_call 42
  refine HF.out.mono ?_
  rintro e w1 ⟨rfl, rfl⟩
  rw [← hW] at HB HO1 hlt c0 hg k0 k1 k2 k3 ⊢
  have HN : Hid (w.heap.size < W.heap.size) := hid (Array.getElem?_eq_some_iff.1 HQW.out).1
  have HBo : Hid (Below W.heap.size W (W.alloc (.cells #[.int .i64 o.i, .int .i64 o.s, .int .i64 o.p, .int .i64 q] 71))) := hid ((Below.refl _ W).alloc (Nat.le_refl _) _)
  clear hW
  go_wp2_with (at_builtin; refine wpList_copy_or rfl _ _ rfl (w0 := W.alloc (.cells #[.int .i64 o.i, .int .i64 o.s, .int .i64 o.p, .int .i64 q] 71)) rfl rfl (by simp) rfl (OwnG.on HO1.out HBo.out) HLL.out ?_; (
    intro v2 w2 hR hB2
    have hqo := obOn (heap_alloc_new W (.cells #[.int .i64 o.i, .int .i64 o.s, .int .i64 o.p, .int .i64 q] 71)) hB2 (by simp)
    have HQO := hid hqo
    have hb3 := HBo.out.trans (hB2.mono (by simp))
    have HBB := hid (HB.out.trans (hb3.mono HB.out.size))
    have HQ2 := hid (obOn HQW.out hb3 HN.out)
    have HSZ := hid hb3.size
    have m0 := cellAt' hqo 0; have m1 := cellAt' hqo 1; have m2 := cellAt' hqo 2; have m3 := cellAt' hqo 3
    simp at m0 m1 m2 m3
    have hqw := (Array.getElem?_eq_some_iff.1 hqo).1
    have HR2 := hid hR
    obtain ⟨a2, c2, n2, rfl, hn2⟩ := hR.asSlice
    clear hqo hb3 hB2 hR hq hn2))
  go_at_call 41
  refine (rWithout HR2.out HLL.out z).mono ?_
  rintro e w3 ⟨r3, rfl, hO3, hB3⟩
  obtain ⟨a3, c3, n3, rfl, hn3⟩ := hO3.asSlice
  have hq3 := obOn HQO.out hB3 hqw
  have p0 := cellAt' hq3 0; have p1 := cellAt' hq3 1; have p2 := cellAt' hq3 2; have p3 := cellAt' hq3 3
  simp at p0 p1 p2 p3
  have HO3 := hid hO3
  have HB3 := hid hB3
  clear hO3 hB3 hq3 m0 m1 m2 m3 hn3
  go_wp2_with (at_builtin; refine wpList_append_or rfl _ _ rfl w2.heap.size _ (less L z) rfl (OwnG.on HO3.out ((Below.refl _ w3).alloc (Nat.le_refl _) _)) _ [{ o with n := q }] rfl (sl_one_or w3 { o with n := q }) (fun h => by cases h) (by have := HLL.out; unfold less; simp; omega) (by have := HB3.out.size; simp; omega) ?_; (
    intro v4 w4 hR4 hg4
    have hb4 : Below w2.heap.size w2 w4 := (HB3.out.alloc HB3.out.size _).grown hg4 (by have := HB3.out.size; simp; omega) (fun k hk => (HO3.out.lt k hk).1)
    have HBB4 := hid (HBB.out.trans (hb4.mono HBB.out.size))
    have HQ4 := hid (obOn HQ2.out hb4 (by have := HSZ.out; have := HN.out; omega))
    have HR4 := hid hR4
    have HC4 : Hid (w.heap.size < w2.heap.size) := hid (by have := HSZ.out; have := HN.out; omega)
    obtain ⟨a4, c4, n4, rfl, hn4⟩ := hR4.asSlice
    have HFIN := hid (fun x y z => RTo.fin HBB4.out HRB.out HR4.out (N := w.heap.size) (Nat.le_refl _) HC4.out x y z)
    obtain ⟨hb2, e0, f0⟩ := (HRB.out.on HBB4.out).cells
    obtain ⟨⟨j0, j1, j2⟩, fz, hz⟩ := box3_at HQ4.out
    have hne : ¬ b = w.heap.size := by omega
    have hne2 : ¬ w.heap.size = b := by omega
    clear hR4 hg4 hb4 hn4 p0 p1 p2 p3))
  refine bodyPost_ret (v := rpV 0 (.slice none 0 0) q) (by simp [results, Try.results26, go_sem, j0, j1, j2]) rfl ⟨rfl, ?_⟩
  exact HFIN.out (.int .i64 0) (.slice none 0 0) (.int .i64 q)
end Go.Proofs.Ytdgllpfccdbdnaa
/- The document's book: Amend to less. -/
namespace Go.Proofs.Ytdgllpfccdbdnaa
set_option linter.unusedVariables false
set_option linter.unusedSimpArgs false
open Go.RowKit
open Go.Lib (hid)

set_option maxHeartbeats 12800000 in
set_option maxRecDepth 100000 in
theorem rAmend_less {w : World} {b B : Nat} {v : Value} {L : List Od} (hb : RB w b v) (h : OwnR w B v L) (hl : L.length ≤ 1000) (id q : Int) (hq1 : ¬ q < 1) (hq2 : ¬ 1048576 < q) (o : Od) (ha : L.any (isI id) = true) (hi : idxO (isI id) L = (L.findIdx (isI id) : Nat)) (ho : L[L.findIdx (isI id)]? = some o) (hm : ¬ o.n < q) : Calls Try.prog 26 #[ptr b, .int .i64 id, .int .i64 q] w fun e w' => e = .returned (rpV (refAmend L id q).1 (.slice none 0 0) (refAmend L id q).2.1) ∧ RTo w w' b (refAmend L id q).2.2 := by
  have hB : Below w.heap.size w (w.alloc box3) := (Below.refl _ w).alloc (Nat.le_refl _) _
  have HF := hid (rFind (hb.on hB) (h.on hB) hl id)
  have HB := hid hB
  have HRB := hid hb
  have HOW := hid h
  have HO1 := hid (h.on hB)
  have HLL := hid hl
  obtain ⟨hlt, c0, _⟩ := (hb.on hB).cells
  have hbw := hb.cells.1
  obtain ⟨a, n, c, rfl, hn, hx⟩ := OwnR.at (h.on hB)
  have hq := heap_alloc_new w box3
  have HQ := hid hq
  rw [hi] at HF
  have hk := (List.getElem?_eq_some_iff.1 ho).1
  obtain ⟨g, rfl, hg, k0, k1, k2, k3⟩ := hx _ _ ho
  have hE : refAmend L id q = (0, q, if o.n < q then less L (L.findIdx (isI id)) ++ [{ o with n := q }] else L.set (L.findIdx (isI id)) { o with n := q }) := by unfold refAmend; rw [if_neg hq1, if_neg hq2, ha, ho]; rfl
  rw [hE]
  have HO := hid ho
  generalize L.findIdx (isI id) = z at HF hk k0 k1 k2 k3 HO ⊢
  have hzn : (z : Int) < (n : Int) := by omega
  have hz0 : ¬ (z : Int) < 0 := by omega
  have hn1 : n ≤ 1000 := by omega
  clear h hb ha hi hx hn hB hE ho hk
  obtain ⟨W, hW⟩ : ∃ W, W = w.alloc box3 := ⟨_, rfl⟩
  have HQW : Hid (W.heap[w.heap.size]? = some box3) := hid (by rw [hW]; exact HQ.out)
  rw [if_neg hm]
  go_enter Try.func26, Try.ntmps26
  go_wp2_with fail
  go_at_call 42
  refine HF.out.mono ?_
  rintro e w1 ⟨rfl, rfl⟩
  rw [← hW] at HB HO1 hlt c0 hg k0 k1 k2 k3 ⊢
  have HN : Hid (w.heap.size < W.heap.size) := hid (Array.getElem?_eq_some_iff.1 HQW.out).1
  have HBo : Hid (Below W.heap.size W (W.alloc (.cells #[.int .i64 o.i, .int .i64 o.s, .int .i64 o.p, .int .i64 q] 71))) := hid ((Below.refl _ W).alloc (Nat.le_refl _) _)
  clear hW
  go_wp2_with (at_builtin; refine wpList_copy_or rfl _ _ rfl (w0 := W.alloc (.cells #[.int .i64 o.i, .int .i64 o.s, .int .i64 o.p, .int .i64 q] 71)) rfl rfl (by simp) rfl (OwnG.on HO1.out HBo.out) HLL.out ?_; (
    intro v2 w2 hR hB2
    have hqo := obOn (heap_alloc_new W (.cells #[.int .i64 o.i, .int .i64 o.s, .int .i64 o.p, .int .i64 q] 71)) hB2 (by simp)
    have HQO := hid hqo
    have hb3 := HBo.out.trans (hB2.mono (by simp))
    have HBB := hid (HB.out.trans (hb3.mono HB.out.size))
    have HQ2 := hid (obOn HQW.out hb3 HN.out)
    have HSZ := hid hb3.size
    have m0 := cellAt' hqo 0; have m1 := cellAt' hqo 1; have m2 := cellAt' hqo 2; have m3 := cellAt' hqo 3
    simp at m0 m1 m2 m3
    have hqw := (Array.getElem?_eq_some_iff.1 hqo).1
    have HR2 := hid hR
    obtain ⟨g2, c2, rfl, hg2, hg2s, ⟨e0, e1, e2, e3⟩, hfz2⟩ : ∃ g2 c2, v2 = .slice (some ⟨g2, 0, none⟩) L.length c2 ∧ (W.alloc (.cells #[.int .i64 o.i, .int .i64 o.s, .int .i64 o.p, .int .i64 q] 71)).heap.size ≤ g2 ∧ g2 < w2.heap.size ∧ (w2.cell? ⟨g2, z * 4, none⟩ = some (.int .i64 o.i) ∧ w2.cell? ⟨g2, z * 4 + 1, none⟩ = some (.int .i64 o.s) ∧ w2.cell? ⟨g2, z * 4 + 2, none⟩ = some (.int .i64 o.p) ∧ w2.cell? ⟨g2, z * 4 + 3, none⟩ = some (.int .i64 o.n)) ∧ ∀ j, w2.frozen? ⟨g2, j, none⟩ = false := by
      rcases hR.shape with ⟨_, rfl⟩ | ⟨g2, c2, h1, h2, h3, h4, h5, h6, h7⟩
      · have := HO.out; simp at this
      · exact ⟨g2, c2, h1, h4, h5, h6 z o HO.out, h7⟩
    have HG2 := hid hg2
    clear hg2
    have hzl : (z : Int) < (L.length : Int) := by have := (List.getElem?_eq_some_iff.1 HO.out).1; omega
    obtain ⟨hb2, x0, f0⟩ := (HRB.out.on HBB.out).cells
    obtain ⟨⟨j0, j1, j2⟩, fz, hz⟩ := box3_at HQ2.out
    have hWs : W.heap.size < g2 := by have := HG2.out; simp at this; omega
    have HRS := hid (row_set4 HR2.out HO.out q)
    have hn1 : ¬ b = g2 := by have := HN.out; omega
    have hn2 : ¬ g2 = b := by have := HN.out; omega
    have hn3 : ¬ w.heap.size = g2 := by have := HN.out; omega
    have hn4 : ¬ g2 = w.heap.size := by have := HN.out; omega
    have hne : ¬ b = w.heap.size := by omega
    have hne2 : ¬ w.heap.size = b := by omega
    clear hqo hb3 hB2 hR hq))
  refine bodyPost_ret (v := rpV 0 (.slice none 0 0) q) (by simp [results, Try.results26, go_sem, j0, j1, j2]) rfl ⟨rfl, ?_⟩
  have hle : w.heap.size ≤ g2 := by have := HN.out; omega
  exact RTo.fin ((((HBB.out.setCell hle _).setCell hle _).setCell hle _).setCell hle _) HRB.out HRS.out (N := w.heap.size) (Nat.le_refl _) (by have := HN.out; simp; omega) _ _ _
end Go.Proofs.Ytdgllpfccdbdnaa
/- The document's book: Amend. -/
namespace Go.Proofs.Ytdgllpfccdbdnaa
set_option linter.unusedVariables false
set_option linter.unusedSimpArgs false
open Go.RowKit
open Go.Lib (hid)
theorem rAmend {w : World} {b B : Nat} {v : Value} {L : List Od} (hb : RB w b v) (h : OwnR w B v L) (hl : L.length ≤ 1000) (id q : Int) : Calls Try.prog 26 #[ptr b, .int .i64 id, .int .i64 q] w fun e w' => e = .returned (rpV (refAmend L id q).1 (.slice none 0 0) (refAmend L id q).2.1) ∧ RTo w w' b (refAmend L id q).2.2 := by
  by_cases hq1 : q < 1
  · exact rAmend_no hb h hl id q (.inl (.inl hq1))
  by_cases hq2 : 1048576 < q
  · exact rAmend_no hb h hl id q (.inl (.inr hq2))
  rcases idx_cases L id with ⟨ha, hi, o, ho⟩ | ⟨ha, hi⟩
  · by_cases hm : o.n < q
    · exact rAmend_more hb h hl id q hq1 hq2 o ha hi ho hm
    · exact rAmend_less hb h hl id q hq1 hq2 o ha hi ho hm
  · exact rAmend_no hb h hl id q (.inr ha)
end Go.Proofs.Ytdgllpfccdbdnaa
/- The document's book: each act, whatever comes. -/
namespace Go.Proofs.Ytdgllpfccdbdnaa
set_option linter.unusedVariables false
set_option linter.unusedSimpArgs false
open Go.RowKit
open Go.Lib (hid)

set_option maxHeartbeats 3200000 in
set_option maxRecDepth 100000 in
theorem rPlace_bad {w : World} {b B : Nat} {v : Value} {L bs ss : List Od} (hb : RB w b v) (h : OwnR w B v L) (hR : Rel L bs ss) (o : Od) (he : refE bs ss o ≠ 0) :
    Calls Try.prog 24 #[ptr b, .agg #[.int .i64 o.i, .int .i64 o.s, .int .i64 o.p, .int .i64 o.n]] w fun e w' => DocTo w w' b e (placeF bs ss o) := by
  have hA := rel_bad hR he
  have hE : badF L o = refE bs ss o := (ref_bad hR o).symm
  obtain ⟨x, hx⟩ : ∃ x, x = refE bs ss o := ⟨_, rfl⟩
  rw [← hx] at hA hE he
  obtain ⟨i, s, p, n⟩ := o
  obtain ⟨W0, hW0⟩ : ∃ W, W = (w.alloc (ob4 i s p n)).alloc box3 := ⟨_, rfl⟩
  have hB0 : Below w.heap.size w W0 := by rw [hW0]; exact ((Below.refl _ w).alloc (Nat.le_refl _) _).alloc (by simp) _
  have HBad := hid (rBad (hb.on hB0) (OwnG.on h hB0) (by have := hR.len; omega) ⟨i, s, p, n⟩)
  rw [hE] at HBad
  have hn4 : W0.heap[w.heap.size + 1]? = some box3 := by
    rw [hW0, show w.heap.size + 1 = (w.alloc (ob4 i s p n)).heap.size by simp]; exact heap_alloc_new _ _
  have HB0 := hid hB0
  have HRB := hid hb
  have HOW := hid h
  have HW0 := hid hW0
  have HN4 := hid hn4
  have HA := hid hA
  clear h hb hR hE hx hW0 hB0 hn4 hA
  go_enter Try.func24, Try.ntmps24
  go_wp2_with fail
  go_at_call 38
  rw [← HW0.out]
  refine HBad.out.mono ?_
  rintro e w1 ⟨rfl, hB1⟩
  have hq := obOn HN4.out hB1 (Array.getElem?_eq_some_iff.1 HN4.out).1
  have k0 := cellAt' hq 0; have k1 := cellAt' hq 1; have k2 := cellAt' hq 2
  have fz : ∀ f, w1.frozen? ⟨w.heap.size + 1, f, none⟩ = false := fun f => by simp [World.frozen?, hq]
  simp at k0 k1 k2
  have HBB := hid (HB0.out.trans (hB1.mono HB0.out.size))
  clear hq hB1
  go_wp2_with fail
  refine bodyPost_ret (v := rpV x (.slice none 0 0) 0) (by simp [results, Try.results24, go_sem, k0, k1, k2]) rfl ?_
  exact DocTo.of HA.out (World.ownsRow_nil _ _ _ _) (RTo.same HRB.out HOW.out (below3 HBB.out (by omega) _ _ _))

theorem rPlace {w : World} {b B : Nat} {v : Value} {L bs ss : List Od} (hb : RB w b v) (h : OwnR w B v L) (hR : Rel L bs ss) (hF : FineB bs ss) (i s p n : Int) :
    Calls Try.prog 24 #[ptr b, .agg #[.int .i64 i, .int .i64 s, .int .i64 p, .int .i64 n]] w fun e w' => DocTo w w' b e (placeF bs ss ⟨i, s, p, n⟩) := by
  by_cases he : refE bs ss ⟨i, s, p, n⟩ = 0
  · rcases (may_of he).1 with h0 | h0
    · simp only at h0
      subst h0
      exact rPlace0 hb h hR hF i p n he
    · simp only at h0
      subst h0
      exact rPlace1 hb h hR hF i p n he
  · exact rPlace_bad hb h hR _ he
theorem rCancelT {w : World} {b B : Nat} {v : Value} {L bs ss : List Od} (hb : RB w b v) (h : OwnR w B v L) (hR : Rel L bs ss) (id : Int) :
    Calls Try.prog 25 #[ptr b, .int .i64 id] w fun e w' => DocTo w w' b e (cancelF bs ss id) :=
  (rCancel hb h (by have := hR.len; omega) id).mono fun e w' hx => DocTo.of2 (rel_cancel hR id) hx.1 hx.2
theorem rAmendT {w : World} {b B : Nat} {v : Value} {L bs ss : List Od} (hb : RB w b v) (h : OwnR w B v L) (hR : Rel L bs ss) (id q : Int) :
    Calls Try.prog 26 #[ptr b, .int .i64 id, .int .i64 q] w fun e w' => DocTo w w' b e (amendF bs ss id q) :=
  (rAmend hb h (by have := hR.len; omega) id q).mono fun e w' hx => DocTo.of2 (rel_amend hR id q) hx.1 hx.2
end Go.Proofs.Ytdgllpfccdbdnaa
/- The document's market: Apply, of one kind of commands. -/
namespace Go.Proofs.Ytdgllpfccdbdnaa
set_option linter.unusedVariables false
set_option linter.unusedSimpArgs false
open Go.RowKit
open Go.Lib (hid)

set_option maxHeartbeats 25600000 in
set_option maxRecDepth 100000 in
theorem rAppP {w : World} {x : Nat} {v : Nat → Value} {L : Nat → List Od} {P : Nat → Pl} (h : RM w x v L P) (hok : ∀ i, i < 4 → PlOk (P i)) (S : Nat) (hS : S < 4) (ci ct cd cp cq : Int) (hc : C7.ok ⟨ci, 0, (S : Int), ct, cd, cp, cq⟩ = true) :
    Calls Try.prog 10 #[ptr x, cmV ci 0 (S : Int) ct cd cp cq] w fun e w' => RAppl w w' x e (applyF ⟨ci, 0, (S : Int), ct, cd, cp, cq⟩ P) := by
  have HM := hid h
  have HOK := hid hok
  obtain ⟨c, hcc⟩ : ∃ c : C7, c = ⟨ci, 0, (S : Int), ct, cd, cp, cq⟩ := ⟨_, rfl⟩
  have hPO := hok S hS
  obtain ⟨R, hR⟩ : ∃ R, R = doesF ⟨ci, 0, (S : Int), ct, cd, cp, cq⟩ (P S).bs (P S).ss := ⟨_, rfl⟩
  have hdo := does_ok ⟨ci, 0, (S : Int), ct, cd, cp, cq⟩ hPO.1
  rw [← hR] at hdo
  have HPL : Hid (∀ W b B vv, RB W b vv → OwnR W B vv (L S) → Calls Try.prog 24 #[ptr b, .agg #[.int .i64 ci, .int .i64 cd, .int .i64 cp, .int .i64 cq]] W fun e w' => DocTo W w' b e R) := hid (by
    intro W b B vv hb hr
    have hrel := h.rel S hS
    have hF := hPO.1
    rw [hR]; unfold doesF; simp only [↓reduceIte]
    exact rPlace hb hr hrel hF ci cd cp cq)
  obtain ⟨err, fs, left, bs', ss'⟩ := R
  simp only at hdo
  have hA : applyF ⟨ci, 0, (S : Int), ct, cd, cp, cq⟩ P = if overB ((P S).vol + volF fs) ((P S).val + valF fs) then (8, [], 0, P) else (err, fs, left, upd P S (stepF (P S) (err, fs, left, bs', ss'))) := by
    unfold applyF
    rw [if_neg (by rw [hc]; decide)]
    have e : (C7.s ⟨ci, 0, (S : Int), ct, cd, cp, cq⟩).toNat = S := Int.toNat_natCast S
    rw [e, ← hR]
  rw [hA]
  obtain ⟨rr, hrr⟩ : ∃ rr, rr = if overB ((P S).vol + volF fs) ((P S).val + valF fs) then (8, [], 0, P) else (err, fs, left, upd P S (stepF (P S) (err, fs, left, bs', ss'))) := ⟨_, rfl⟩
  rw [← hrr]
  have HDO := hid hdo
  have hvb := vol_bound hdo.1
  have hP1 := hPO.2.1
  have hP2 := hPO.2.2
  obtain ⟨vo, hvo⟩ : ∃ vo, vo = (P S).vol := ⟨_, rfl⟩
  obtain ⟨va, hva⟩ : ∃ va, va = (P S).val := ⟨_, rfl⟩
  have HVO := hid hvo
  have HVA := hid hva
  rw [← hvo] at hP1
  rw [← hva] at hP2
  rw [← hvo, ← hva] at hrr
  have HRR := hid hrr
  have hone : oneB ci 0 (S : Int) ct cd cp cq = true := hc
  have HONE := hid hone
  obtain ⟨W0, hW0⟩ : ∃ W, W = (w.alloc (.cells (C7.cells ⟨ci, 0, (S : Int), ct, cd, cp, cq⟩).toArray 42)).alloc box3 := ⟨_, rfl⟩
  have hA0 : Ap w W0 ⟨ci, 0, (S : Int), ct, cd, cp, cq⟩ := by
    rw [hW0]
    exact ⟨((Below.refl _ w).alloc (Nat.le_refl _) _).alloc (by simp) _, obAlloc (heap_alloc_new w _), by rw [show w.heap.size + 1 = (w.alloc (.cells (C7.cells ⟨ci, 0, (S : Int), ct, cd, cp, cq⟩).toArray 42)).heap.size by simp]; exact heap_alloc_new _ _⟩
  have hs0 : w.heap.size + 2 ≤ W0.heap.size := (Array.getElem?_eq_some_iff.1 hA0.n1).1
  have HA0 := hid hA0
  have HW0 := hid hW0
  have HS0 := hid hs0
  obtain ⟨a, cap, nv, hv, hnv⟩ := (h.row S hS).asSlice
  have HV := hid hv
  have hrow := h.row S hS
  rw [hv] at hrow
  have HROW := hid hrow
  have HLK : Hid ((L S).length ≤ 1000) := hid (by have := (h.rel S hS).len; omega)
  have hxw := (h.cells hS).1
  have HSS := hid hS
  have hSz : (S : Int) < 4 := by omega
  have hSn : (0 : Int) ≤ (S : Int) := by omega
  clear h hok hcc hPO hR hdo hA hc hone hvb hrr hvo hva hW0 hA0 hs0 hv hnv hrow c
  go_enter Try.func10, Try.ntmps10
  go_wp2_with fail
  go_at_call 23
  show Calls _ _ _ ((w.alloc (.cells (C7.cells ⟨ci, 0, (S : Int), ct, cd, cp, cq⟩).toArray 42)).alloc box3) _
  rw [← HW0.out]
  refine (rOne _ _ _ _ _ _ _ W0).mono ?_
  rintro e w1 ⟨rfl, hB1⟩
  rw [HONE.out]
  have HA1 := hid (HA0.out.below (hB1.mono HS0.out))
  have HS1 : Hid (w.heap.size + 2 ≤ w1.heap.size) := hid (Nat.le_trans HS0.out hB1.size)
  have HRO1 := hid (OwnG.on HROW.out HA1.out.be)
  obtain ⟨i0, i1, i2, i3, i4, i5, i6⟩ := HA1.out.cells
  simp only at i0 i1 i2 i3 i4 i5 i6
  obtain ⟨hx1, g0, _, _, _⟩ := (HM.out.on HA1.out.be).cells HSS.out
  rw [HV.out] at g0
  clear hB1
  go_upto_region 7 with (at_builtin; refine wpList_copy_or rfl _ _ rfl (w0 := w1) rfl rfl rfl rfl HRO1.out HLK.out ?_; (
    intro v2 w2 hR2 hB2
    have hrp := Rp.start HA1.out HS1.out hB2 hR2
    obtain ⟨a2, c2, n2, rfl, hn2⟩ := hR2.asSlice
    have HRP := hid hrp
    clear hR2 hB2 hn2 hrp i0 i1 i2 i3 i4 i5 i6 g0))
  generalize hW2 : (w2.alloc (.cells #[.slice a2 n2 c2] 29)).alloc box3 = W2 at HRP ⊢
  generalize hN7 : w2.heap.size = N7 at HRP ⊢
  clear hW2 hN7
  obtain ⟨i0, i1, i2, i3, i4, i5, i6⟩ := HRP.out.ap.cells
  simp only at i0 i1 i2 i3 i4 i5 i6
  have hNW : N7 + 1 < W2.heap.size := (Array.getElem?_eq_some_iff.1 HRP.out.n8).1
  go_wp2_with fail
  go_at_call 24
  refine (HPL.out _ _ _ _ HRP.out.rb HRP.out.row).mono ?_
  intro e w3 hd
  obtain ⟨fa, fn, fc, v3, L3, rfl, hb8, hfn, hrel3, hq3⟩ := HRP.out.act hd
  simp only at hfn hrel3 hq3 ⊢
  obtain ⟨a3, c3, n3, rfl, hn3⟩ := OwnG.asSlice hq3.row
  clear hn3
  have HQ := hid hq3
  have HR3 := hid hrel3
  have HFN := hid hfn
  have y0 := cellAt' hb8 0; have y1 := cellAt' hb8 1; have y2 := cellAt' hb8 2
  have yf : ∀ f, w3.frozen? ⟨N7 + 1, f, none⟩ = false := fun f => by simp [World.frozen?, hb8]
  simp at y0 y1 y2
  clear hd hb8 hfn hrel3 hq3 i0 i1 i2 i3 i4 i5 i6 hNW
  go_upto_region 13 with fail
  generalize hW4 : ((w3.setCell ⟨N7 + 1, 0, none⟩ (.int .i64 err)).setCell ⟨N7 + 1, 1, none⟩ (.slice fa fn fc)).setCell ⟨N7 + 1, 2, none⟩ (.int .i64 left) = W4 at HQ ⊢
  clear hW4 y0 y1 y2 yf
  have hfn8 : fn ≤ 8 := by have := HFN.out; have := HDO.out.2; omega
  obtain ⟨hx4, _, g1, g2, _⟩ := (HM.out.on HQ.out.ap.be).cells HSS.out
  rw [← HVO.out] at g1
  rw [← HVA.out] at g2
  obtain ⟨z0, z1, z2⟩ := HQ.out.rep
  have HS3 : Hid (∀ k y, fs[k]? = some y → ∃ g, fa = some ⟨g, 0, none⟩ ∧ g < W4.heap.size ∧ W4.cell? ⟨g, k * 3, none⟩ = some (.int .i64 y.i) ∧ W4.cell? ⟨g, k * 3 + 1, none⟩ = some (.int .i64 y.p) ∧ W4.cell? ⟨g, k * 3 + 2, none⟩ = some (.int .i64 y.q)) := hid fun k y hk => by
    rcases OwnF.shape HQ.out.fl with ⟨_, e⟩ | ⟨g, cap', e, _, _, _, hg, hc, _⟩
    · rw [e] at hk; simp at hk
    · injection e with e3 _ _
      exact ⟨g, e3, hg, hc k y hk⟩
  go_wp2_with fail
  clear g1 g2
  go_loopg [9, 10, 11] fn (fun gg s9 s10 s11 wr => ∃ k n : Nat, k ≤ fn ∧ fn - k ≤ gg ∧ s11 = .int .i64 k ∧ s9 = .int .i64 ((vo + volF (fs.take k) : Nat) : Int) ∧ s10 = .int .i64 ((va + valF (fs.take k) : Nat) : Int) ∧ wr = W4.drewN n)
  case atStart => exact ⟨0, 0, by omega, by omega, rfl, by simp [volF], by simp [valF], rfl⟩
  case round =>
    obtain ⟨k, n, hk, hgg, rfl, rfl, rfl, rfl⟩ := hrel
    have hbd := vol_bound (fs := fs.take k) fun f hf => HDO.out.1 f (List.mem_of_mem_take hf)
    have hlen : (fs.take k).length ≤ 8 := by rw [List.length_take]; have := HDO.out.2; omega
    by_cases hlt : k < fn
    · have hltz : (k : Int) < (fn : Int) := by omega
      obtain ⟨y, hy⟩ : ∃ y, fs[k]? = some y := ⟨fs[k]'(by rw [← HFN.out]; exact hlt), List.getElem?_eq_getElem (by rw [← HFN.out]; exact hlt)⟩
      obtain ⟨g, rfl, hg, k0, k1, k2⟩ := HS3.out k y hy
      have hok := HDO.out.1 y (List.mem_of_getElem? hy)
      have hmb := mul_bound hok.1 hok.2.1 hok.2.2.1 hok.2.2.2
      have hvt := vol_take hy
      have hq1 : 1 ≤ y.q ∧ y.q ≤ 1048576 := ⟨hok.2.2.1, hok.2.2.2⟩
      obtain ⟨za, hza⟩ : ∃ za, za = vo + volF (fs.take k) := ⟨_, rfl⟩
      obtain ⟨zb, hzb⟩ : ∃ zb, zb = va + valF (fs.take k) := ⟨_, rfl⟩
      have HE1 : Hid (((vo + volF (fs.take (k + 1)) : Nat) : Int) = (za : Int) + y.q) := hid (by rw [hza, hvt.1]; omega)
      have HE2 : Hid (((va + valF (fs.take (k + 1)) : Nat) : Int) = (zb : Int) + y.p * y.q) := hid (by rw [hzb, hvt.2]; omega)
      have hwa : wrap64 ((za : Int) + y.q) = (za : Int) + y.q := by unfold wrap64; omega
      obtain ⟨pq, hpq⟩ : ∃ pq, pq = y.p * y.q := ⟨_, rfl⟩
      have hw1 : IntKind.i64.wrap (y.p * y.q) = y.p * y.q := by rw [IntKind.wrap_i64]; omega
      have hw2 : IntKind.i64.wrap ((zb : Int) + y.p * y.q) = (zb : Int) + y.p * y.q := by rw [IntKind.wrap_i64]; omega
      rw [← hza, ← hzb]
      clear hy hok hmb hvt hza hzb hbd hlen hpq
      go_wp2_with fail
      go_quiet (fail)
      go_wp2_with fail
      go_roundg (fn - (k + 1))
      case measure => omega
      case rel => exact ⟨k + 1, _, by omega, by omega, by go_num, by rw [HE1.out, hwa], by rw [HE2.out], rfl⟩
    · have hltz : ¬ (k : Int) < (fn : Int) := by omega
      have hT : fs.take k = fs := List.take_of_length_le (by have := HFN.out; omega)
      rw [hT] at hbd hlen ⊢
      obtain ⟨za, hza⟩ : ∃ za, za = vo + volF fs := ⟨_, rfl⟩
      obtain ⟨zb, hzb⟩ : ∃ zb, zb = va + valF fs := ⟨_, rfl⟩
      rw [← hza, ← hzb]
      have HZA := hid hza
      have HZB := hid hzb
      have HQ5 := hid (HQ.out.on (belowDrewN (Below.refl _ W4) n))
      generalize W4.drewN n = W5 at HQ5 ⊢
      clear hbd hlen hza hzb z0 z1 z2 hx4 hT
      obtain ⟨⟨q0, q1, q2⟩, qf⟩ := HQ5.out.ap.box
      obtain ⟨hx5, g0, g1, g2, gf⟩ := (HM.out.on HQ5.out.ap.be).cells HSS.out
      obtain ⟨z0, z1, z2⟩ := HQ5.out.rep
      obtain ⟨hlt7, b0, bf⟩ := HQ5.out.rb.cells
      by_cases ho : overB (vo + volF fs) (va + valF fs) = true
      · have HEE := hid (HRR.out.trans (if_pos ho))
        have ho2 := ho
        rw [← HZA.out, ← HZB.out] at ho2
        unfold overB at ho2
        have ho3 := of_decide_eq_true ho2
        have HBE := hid HQ5.out.ap.be
        clear ho ho2
        by_cases hv1 : 1099511627776 < za
        · have hv1z : (1099511627776 : Int) < (za : Int) := by omega
          clear ho3
          go_wp2_with fail
          refine bodyPost_ret (v := rpV 8 (.slice none 0 0) 0) (by simp [results, Try.results10, go_sem, q0, q1, q2]) rfl ?_
          rw [HEE.out]
          exact ⟨_, v, L, rfl, World.ownsRow_nil _ _ _ _, HM.out.on (below3 HBE.out (by omega) _ _ _), Tch.ofBelow (below3 HBE.out (by omega) _ _ _)⟩
        · have hv1z : ¬ (1099511627776 : Int) < (za : Int) := by omega
          have hv2z : (1099511627776 : Int) < (zb : Int) := by omega
          clear ho3
          go_wp2_with fail
          refine bodyPost_ret (v := rpV 8 (.slice none 0 0) 0) (by simp [results, Try.results10, go_sem, q0, q1, q2]) rfl ?_
          rw [HEE.out]
          exact ⟨_, v, L, rfl, World.ownsRow_nil _ _ _ _, HM.out.on (below3 HBE.out (by omega) _ _ _), Tch.ofBelow (below3 HBE.out (by omega) _ _ _)⟩
      · have hee := HRR.out.trans (if_neg ho)
        have ho2 := ho
        rw [← HZA.out, ← HZB.out] at ho2
        unfold overB at ho2
        simp only [decide_eq_true_eq] at ho2
        have hv1z : ¬ (1099511627776 : Int) < (za : Int) := by omega
        have hv2z : ¬ (1099511627776 : Int) < (zb : Int) := by omega
        clear ho ho2
        have HST : Hid (stepF (P S) (err, fs, left, bs', ss') = ⟨bs', ss', za, zb⟩) := hid (by unfold stepF; simp only; rw [HZA.out, HZB.out, HVO.out, HVA.out])
        rw [HST.out] at hee
        have HEE := hid hee
        clear hee
        have HFIN := hid (fun a b d => HQ5.out.fin HM.out HSS.out ⟨bs', ss', za, zb⟩ HR3.out a b d)
        have hn1 : ¬ x = N7 + 1 := by have := HQ5.out.h8; omega
        have hn2 : ¬ N7 + 1 = x := by omega
        have hn3 : ¬ x = w.heap.size + 1 := by omega
        have hn4 : ¬ w.heap.size + 1 = x := by omega
        have hn5 : ¬ w.heap.size + 1 = N7 + 1 := by have := HQ5.out.h8; omega
        have hn6 : ¬ N7 + 1 = w.heap.size + 1 := by omega
        go_wp2_with fail
        go_still_tail 6, (by kernel_rfl)
        change wpList _ _ _ _ _ W5.drew
        go_wp2_with fail
        refine bodyPost_ret (v := rpV err (.slice fa fn fc) left) (by simp [results, Try.results10, go_sem, q0, q1, q2]) rfl ?_
        rw [HEE.out]
        have hf := HFIN.out (.int .i64 err) (.slice fa fn fc) (.int .i64 left)
        exact ⟨_, _, _, rfl, OwnG.on hf.1 (belowDrew (Below.refl _ _)), hf.2.1.on (belowDrew (Below.refl _ _)), hf.2.2.drew⟩
end Go.Proofs.Ytdgllpfccdbdnaa

/- The document's market: Apply, of one kind of commands. -/
namespace Go.Proofs.Ytdgllpfccdbdnaa
set_option linter.unusedVariables false
set_option linter.unusedSimpArgs false
open Go.RowKit
open Go.Lib (hid)

set_option maxHeartbeats 25600000 in
set_option maxRecDepth 100000 in
theorem rAppC {w : World} {x : Nat} {v : Nat → Value} {L : Nat → List Od} {P : Nat → Pl} (h : RM w x v L P) (hok : ∀ i, i < 4 → PlOk (P i)) (S : Nat) (hS : S < 4) (ci ct cd cp cq : Int) (hc : C7.ok ⟨ci, 1, (S : Int), ct, cd, cp, cq⟩ = true) :
    Calls Try.prog 10 #[ptr x, cmV ci 1 (S : Int) ct cd cp cq] w fun e w' => RAppl w w' x e (applyF ⟨ci, 1, (S : Int), ct, cd, cp, cq⟩ P) := by
  have HM := hid h
  have HOK := hid hok
  obtain ⟨c, hcc⟩ : ∃ c : C7, c = ⟨ci, 1, (S : Int), ct, cd, cp, cq⟩ := ⟨_, rfl⟩
  have hPO := hok S hS
  obtain ⟨R, hR⟩ : ∃ R, R = doesF ⟨ci, 1, (S : Int), ct, cd, cp, cq⟩ (P S).bs (P S).ss := ⟨_, rfl⟩
  have hdo := does_ok ⟨ci, 1, (S : Int), ct, cd, cp, cq⟩ hPO.1
  rw [← hR] at hdo
  have HPL : Hid (∀ W b B vv, RB W b vv → OwnR W B vv (L S) → Calls Try.prog 25 #[ptr b, .int .i64 ct] W fun e w' => DocTo W w' b e R) := hid (by
    intro W b B vv hb hr
    have hrel := h.rel S hS
    have hF := hPO.1
    rw [hR]; unfold doesF; rw [if_neg (show ¬ (1 : Int) = 0 by decide)]; simp only [↓reduceIte]
    exact rCancelT hb hr hrel ct)
  obtain ⟨err, fs, left, bs', ss'⟩ := R
  simp only at hdo
  have hA : applyF ⟨ci, 1, (S : Int), ct, cd, cp, cq⟩ P = if overB ((P S).vol + volF fs) ((P S).val + valF fs) then (8, [], 0, P) else (err, fs, left, upd P S (stepF (P S) (err, fs, left, bs', ss'))) := by
    unfold applyF
    rw [if_neg (by rw [hc]; decide)]
    have e : (C7.s ⟨ci, 1, (S : Int), ct, cd, cp, cq⟩).toNat = S := Int.toNat_natCast S
    rw [e, ← hR]
  rw [hA]
  obtain ⟨rr, hrr⟩ : ∃ rr, rr = if overB ((P S).vol + volF fs) ((P S).val + valF fs) then (8, [], 0, P) else (err, fs, left, upd P S (stepF (P S) (err, fs, left, bs', ss'))) := ⟨_, rfl⟩
  rw [← hrr]
  have HDO := hid hdo
  have hvb := vol_bound hdo.1
  have hP1 := hPO.2.1
  have hP2 := hPO.2.2
  obtain ⟨vo, hvo⟩ : ∃ vo, vo = (P S).vol := ⟨_, rfl⟩
  obtain ⟨va, hva⟩ : ∃ va, va = (P S).val := ⟨_, rfl⟩
  have HVO := hid hvo
  have HVA := hid hva
  rw [← hvo] at hP1
  rw [← hva] at hP2
  rw [← hvo, ← hva] at hrr
  have HRR := hid hrr
  have hone : oneB ci 1 (S : Int) ct cd cp cq = true := hc
  have HONE := hid hone
  obtain ⟨W0, hW0⟩ : ∃ W, W = (w.alloc (.cells (C7.cells ⟨ci, 1, (S : Int), ct, cd, cp, cq⟩).toArray 42)).alloc box3 := ⟨_, rfl⟩
  have hA0 : Ap w W0 ⟨ci, 1, (S : Int), ct, cd, cp, cq⟩ := by
    rw [hW0]
    exact ⟨((Below.refl _ w).alloc (Nat.le_refl _) _).alloc (by simp) _, obAlloc (heap_alloc_new w _), by rw [show w.heap.size + 1 = (w.alloc (.cells (C7.cells ⟨ci, 1, (S : Int), ct, cd, cp, cq⟩).toArray 42)).heap.size by simp]; exact heap_alloc_new _ _⟩
  have hs0 : w.heap.size + 2 ≤ W0.heap.size := (Array.getElem?_eq_some_iff.1 hA0.n1).1
  have HA0 := hid hA0
  have HW0 := hid hW0
  have HS0 := hid hs0
  obtain ⟨a, cap, nv, hv, hnv⟩ := (h.row S hS).asSlice
  have HV := hid hv
  have hrow := h.row S hS
  rw [hv] at hrow
  have HROW := hid hrow
  have HLK : Hid ((L S).length ≤ 1000) := hid (by have := (h.rel S hS).len; omega)
  have hxw := (h.cells hS).1
  have HSS := hid hS
  have hSz : (S : Int) < 4 := by omega
  have hSn : (0 : Int) ≤ (S : Int) := by omega
  clear h hok hcc hPO hR hdo hA hc hone hvb hrr hvo hva hW0 hA0 hs0 hv hnv hrow c
  go_enter Try.func10, Try.ntmps10
  go_wp2_with fail
  go_at_call 23
  show Calls _ _ _ ((w.alloc (.cells (C7.cells ⟨ci, 1, (S : Int), ct, cd, cp, cq⟩).toArray 42)).alloc box3) _
  rw [← HW0.out]
  refine (rOne _ _ _ _ _ _ _ W0).mono ?_
  rintro e w1 ⟨rfl, hB1⟩
  rw [HONE.out]
  have HA1 := hid (HA0.out.below (hB1.mono HS0.out))
  have HS1 : Hid (w.heap.size + 2 ≤ w1.heap.size) := hid (Nat.le_trans HS0.out hB1.size)
  have HRO1 := hid (OwnG.on HROW.out HA1.out.be)
  obtain ⟨i0, i1, i2, i3, i4, i5, i6⟩ := HA1.out.cells
  simp only at i0 i1 i2 i3 i4 i5 i6
  obtain ⟨hx1, g0, _, _, _⟩ := (HM.out.on HA1.out.be).cells HSS.out
  rw [HV.out] at g0
  clear hB1
  go_upto_region 7 with (at_builtin; refine wpList_copy_or rfl _ _ rfl (w0 := w1) rfl rfl rfl rfl HRO1.out HLK.out ?_; (
    intro v2 w2 hR2 hB2
    have hrp := Rp.start HA1.out HS1.out hB2 hR2
    obtain ⟨a2, c2, n2, rfl, hn2⟩ := hR2.asSlice
    have HRP := hid hrp
    clear hR2 hB2 hn2 hrp i0 i1 i2 i3 i4 i5 i6 g0))
  generalize hW2 : (w2.alloc (.cells #[.slice a2 n2 c2] 29)).alloc box3 = W2 at HRP ⊢
  generalize hN7 : w2.heap.size = N7 at HRP ⊢
  clear hW2 hN7
  obtain ⟨i0, i1, i2, i3, i4, i5, i6⟩ := HRP.out.ap.cells
  simp only at i0 i1 i2 i3 i4 i5 i6
  have hNW : N7 + 1 < W2.heap.size := (Array.getElem?_eq_some_iff.1 HRP.out.n8).1
  go_wp2_with fail
  go_at_call 25
  refine (HPL.out _ _ _ _ HRP.out.rb HRP.out.row).mono ?_
  intro e w3 hd
  obtain ⟨fa, fn, fc, v3, L3, rfl, hb8, hfn, hrel3, hq3⟩ := HRP.out.act hd
  simp only at hfn hrel3 hq3 ⊢
  obtain ⟨a3, c3, n3, rfl, hn3⟩ := OwnG.asSlice hq3.row
  clear hn3
  have HQ := hid hq3
  have HR3 := hid hrel3
  have HFN := hid hfn
  have y0 := cellAt' hb8 0; have y1 := cellAt' hb8 1; have y2 := cellAt' hb8 2
  have yf : ∀ f, w3.frozen? ⟨N7 + 1, f, none⟩ = false := fun f => by simp [World.frozen?, hb8]
  simp at y0 y1 y2
  clear hd hb8 hfn hrel3 hq3 i0 i1 i2 i3 i4 i5 i6 hNW
  go_upto_region 13 with fail
  generalize hW4 : ((w3.setCell ⟨N7 + 1, 0, none⟩ (.int .i64 err)).setCell ⟨N7 + 1, 1, none⟩ (.slice fa fn fc)).setCell ⟨N7 + 1, 2, none⟩ (.int .i64 left) = W4 at HQ ⊢
  clear hW4 y0 y1 y2 yf
  have hfn8 : fn ≤ 8 := by have := HFN.out; have := HDO.out.2; omega
  obtain ⟨hx4, _, g1, g2, _⟩ := (HM.out.on HQ.out.ap.be).cells HSS.out
  rw [← HVO.out] at g1
  rw [← HVA.out] at g2
  obtain ⟨z0, z1, z2⟩ := HQ.out.rep
  have HS3 : Hid (∀ k y, fs[k]? = some y → ∃ g, fa = some ⟨g, 0, none⟩ ∧ g < W4.heap.size ∧ W4.cell? ⟨g, k * 3, none⟩ = some (.int .i64 y.i) ∧ W4.cell? ⟨g, k * 3 + 1, none⟩ = some (.int .i64 y.p) ∧ W4.cell? ⟨g, k * 3 + 2, none⟩ = some (.int .i64 y.q)) := hid fun k y hk => by
    rcases OwnF.shape HQ.out.fl with ⟨_, e⟩ | ⟨g, cap', e, _, _, _, hg, hc, _⟩
    · rw [e] at hk; simp at hk
    · injection e with e3 _ _
      exact ⟨g, e3, hg, hc k y hk⟩
  go_wp2_with fail
  clear g1 g2
  go_loopg [9, 10, 11] fn (fun gg s9 s10 s11 wr => ∃ k n : Nat, k ≤ fn ∧ fn - k ≤ gg ∧ s11 = .int .i64 k ∧ s9 = .int .i64 ((vo + volF (fs.take k) : Nat) : Int) ∧ s10 = .int .i64 ((va + valF (fs.take k) : Nat) : Int) ∧ wr = W4.drewN n)
  case atStart => exact ⟨0, 0, by omega, by omega, rfl, by simp [volF], by simp [valF], rfl⟩
  case round =>
    obtain ⟨k, n, hk, hgg, rfl, rfl, rfl, rfl⟩ := hrel
    have hbd := vol_bound (fs := fs.take k) fun f hf => HDO.out.1 f (List.mem_of_mem_take hf)
    have hlen : (fs.take k).length ≤ 8 := by rw [List.length_take]; have := HDO.out.2; omega
    by_cases hlt : k < fn
    · have hltz : (k : Int) < (fn : Int) := by omega
      obtain ⟨y, hy⟩ : ∃ y, fs[k]? = some y := ⟨fs[k]'(by rw [← HFN.out]; exact hlt), List.getElem?_eq_getElem (by rw [← HFN.out]; exact hlt)⟩
      obtain ⟨g, rfl, hg, k0, k1, k2⟩ := HS3.out k y hy
      have hok := HDO.out.1 y (List.mem_of_getElem? hy)
      have hmb := mul_bound hok.1 hok.2.1 hok.2.2.1 hok.2.2.2
      have hvt := vol_take hy
      have hq1 : 1 ≤ y.q ∧ y.q ≤ 1048576 := ⟨hok.2.2.1, hok.2.2.2⟩
      obtain ⟨za, hza⟩ : ∃ za, za = vo + volF (fs.take k) := ⟨_, rfl⟩
      obtain ⟨zb, hzb⟩ : ∃ zb, zb = va + valF (fs.take k) := ⟨_, rfl⟩
      have HE1 : Hid (((vo + volF (fs.take (k + 1)) : Nat) : Int) = (za : Int) + y.q) := hid (by rw [hza, hvt.1]; omega)
      have HE2 : Hid (((va + valF (fs.take (k + 1)) : Nat) : Int) = (zb : Int) + y.p * y.q) := hid (by rw [hzb, hvt.2]; omega)
      have hwa : wrap64 ((za : Int) + y.q) = (za : Int) + y.q := by unfold wrap64; omega
      obtain ⟨pq, hpq⟩ : ∃ pq, pq = y.p * y.q := ⟨_, rfl⟩
      have hw1 : IntKind.i64.wrap (y.p * y.q) = y.p * y.q := by rw [IntKind.wrap_i64]; omega
      have hw2 : IntKind.i64.wrap ((zb : Int) + y.p * y.q) = (zb : Int) + y.p * y.q := by rw [IntKind.wrap_i64]; omega
      rw [← hza, ← hzb]
      clear hy hok hmb hvt hza hzb hbd hlen hpq
      go_wp2_with fail
      go_quiet (fail)
      go_wp2_with fail
      go_roundg (fn - (k + 1))
      case measure => omega
      case rel => exact ⟨k + 1, _, by omega, by omega, by go_num, by rw [HE1.out, hwa], by rw [HE2.out], rfl⟩
    · have hltz : ¬ (k : Int) < (fn : Int) := by omega
      have hT : fs.take k = fs := List.take_of_length_le (by have := HFN.out; omega)
      rw [hT] at hbd hlen ⊢
      obtain ⟨za, hza⟩ : ∃ za, za = vo + volF fs := ⟨_, rfl⟩
      obtain ⟨zb, hzb⟩ : ∃ zb, zb = va + valF fs := ⟨_, rfl⟩
      rw [← hza, ← hzb]
      have HZA := hid hza
      have HZB := hid hzb
      have HQ5 := hid (HQ.out.on (belowDrewN (Below.refl _ W4) n))
      generalize W4.drewN n = W5 at HQ5 ⊢
      clear hbd hlen hza hzb z0 z1 z2 hx4 hT
      obtain ⟨⟨q0, q1, q2⟩, qf⟩ := HQ5.out.ap.box
      obtain ⟨hx5, g0, g1, g2, gf⟩ := (HM.out.on HQ5.out.ap.be).cells HSS.out
      obtain ⟨z0, z1, z2⟩ := HQ5.out.rep
      obtain ⟨hlt7, b0, bf⟩ := HQ5.out.rb.cells
      by_cases ho : overB (vo + volF fs) (va + valF fs) = true
      · have HEE := hid (HRR.out.trans (if_pos ho))
        have ho2 := ho
        rw [← HZA.out, ← HZB.out] at ho2
        unfold overB at ho2
        have ho3 := of_decide_eq_true ho2
        have HBE := hid HQ5.out.ap.be
        clear ho ho2
        by_cases hv1 : 1099511627776 < za
        · have hv1z : (1099511627776 : Int) < (za : Int) := by omega
          clear ho3
          go_wp2_with fail
          refine bodyPost_ret (v := rpV 8 (.slice none 0 0) 0) (by simp [results, Try.results10, go_sem, q0, q1, q2]) rfl ?_
          rw [HEE.out]
          exact ⟨_, v, L, rfl, World.ownsRow_nil _ _ _ _, HM.out.on (below3 HBE.out (by omega) _ _ _), Tch.ofBelow (below3 HBE.out (by omega) _ _ _)⟩
        · have hv1z : ¬ (1099511627776 : Int) < (za : Int) := by omega
          have hv2z : (1099511627776 : Int) < (zb : Int) := by omega
          clear ho3
          go_wp2_with fail
          refine bodyPost_ret (v := rpV 8 (.slice none 0 0) 0) (by simp [results, Try.results10, go_sem, q0, q1, q2]) rfl ?_
          rw [HEE.out]
          exact ⟨_, v, L, rfl, World.ownsRow_nil _ _ _ _, HM.out.on (below3 HBE.out (by omega) _ _ _), Tch.ofBelow (below3 HBE.out (by omega) _ _ _)⟩
      · have hee := HRR.out.trans (if_neg ho)
        have ho2 := ho
        rw [← HZA.out, ← HZB.out] at ho2
        unfold overB at ho2
        simp only [decide_eq_true_eq] at ho2
        have hv1z : ¬ (1099511627776 : Int) < (za : Int) := by omega
        have hv2z : ¬ (1099511627776 : Int) < (zb : Int) := by omega
        clear ho ho2
        have HST : Hid (stepF (P S) (err, fs, left, bs', ss') = ⟨bs', ss', za, zb⟩) := hid (by unfold stepF; simp only; rw [HZA.out, HZB.out, HVO.out, HVA.out])
        rw [HST.out] at hee
        have HEE := hid hee
        clear hee
        have HFIN := hid (fun a b d => HQ5.out.fin HM.out HSS.out ⟨bs', ss', za, zb⟩ HR3.out a b d)
        have hn1 : ¬ x = N7 + 1 := by have := HQ5.out.h8; omega
        have hn2 : ¬ N7 + 1 = x := by omega
        have hn3 : ¬ x = w.heap.size + 1 := by omega
        have hn4 : ¬ w.heap.size + 1 = x := by omega
        have hn5 : ¬ w.heap.size + 1 = N7 + 1 := by have := HQ5.out.h8; omega
        have hn6 : ¬ N7 + 1 = w.heap.size + 1 := by omega
        go_wp2_with fail
        go_still_tail 6, (by kernel_rfl)
        change wpList _ _ _ _ _ W5.drew
        go_wp2_with fail
        refine bodyPost_ret (v := rpV err (.slice fa fn fc) left) (by simp [results, Try.results10, go_sem, q0, q1, q2]) rfl ?_
        rw [HEE.out]
        have hf := HFIN.out (.int .i64 err) (.slice fa fn fc) (.int .i64 left)
        exact ⟨_, _, _, rfl, OwnG.on hf.1 (belowDrew (Below.refl _ _)), hf.2.1.on (belowDrew (Below.refl _ _)), hf.2.2.drew⟩
end Go.Proofs.Ytdgllpfccdbdnaa

/- The document's market: Apply, of one kind of commands. -/
namespace Go.Proofs.Ytdgllpfccdbdnaa
set_option linter.unusedVariables false
set_option linter.unusedSimpArgs false
open Go.RowKit
open Go.Lib (hid)

set_option maxHeartbeats 25600000 in
set_option maxRecDepth 100000 in
theorem rAppA {w : World} {x : Nat} {v : Nat → Value} {L : Nat → List Od} {P : Nat → Pl} (h : RM w x v L P) (hok : ∀ i, i < 4 → PlOk (P i)) (S : Nat) (hS : S < 4) (ci ct cd cp cq : Int) (ck : Int) (hk0 : ¬ ck = 0) (hk1 : ¬ ck = 1) (hc : C7.ok ⟨ci, ck, (S : Int), ct, cd, cp, cq⟩ = true) :
    Calls Try.prog 10 #[ptr x, cmV ci ck (S : Int) ct cd cp cq] w fun e w' => RAppl w w' x e (applyF ⟨ci, ck, (S : Int), ct, cd, cp, cq⟩ P) := by
  have HM := hid h
  have HOK := hid hok
  obtain ⟨c, hcc⟩ : ∃ c : C7, c = ⟨ci, ck, (S : Int), ct, cd, cp, cq⟩ := ⟨_, rfl⟩
  have hPO := hok S hS
  obtain ⟨R, hR⟩ : ∃ R, R = doesF ⟨ci, ck, (S : Int), ct, cd, cp, cq⟩ (P S).bs (P S).ss := ⟨_, rfl⟩
  have hdo := does_ok ⟨ci, ck, (S : Int), ct, cd, cp, cq⟩ hPO.1
  rw [← hR] at hdo
  have HPL : Hid (∀ W b B vv, RB W b vv → OwnR W B vv (L S) → Calls Try.prog 26 #[ptr b, .int .i64 ct, .int .i64 cq] W fun e w' => DocTo W w' b e R) := hid (by
    intro W b B vv hb hr
    have hrel := h.rel S hS
    have hF := hPO.1
    rw [hR]; unfold doesF; rw [if_neg hk0, if_neg hk1]
    exact rAmendT hb hr hrel ct cq)
  obtain ⟨err, fs, left, bs', ss'⟩ := R
  simp only at hdo
  have hA : applyF ⟨ci, ck, (S : Int), ct, cd, cp, cq⟩ P = if overB ((P S).vol + volF fs) ((P S).val + valF fs) then (8, [], 0, P) else (err, fs, left, upd P S (stepF (P S) (err, fs, left, bs', ss'))) := by
    unfold applyF
    rw [if_neg (by rw [hc]; decide)]
    have e : (C7.s ⟨ci, ck, (S : Int), ct, cd, cp, cq⟩).toNat = S := Int.toNat_natCast S
    rw [e, ← hR]
  rw [hA]
  obtain ⟨rr, hrr⟩ : ∃ rr, rr = if overB ((P S).vol + volF fs) ((P S).val + valF fs) then (8, [], 0, P) else (err, fs, left, upd P S (stepF (P S) (err, fs, left, bs', ss'))) := ⟨_, rfl⟩
  rw [← hrr]
  have HDO := hid hdo
  have hvb := vol_bound hdo.1
  have hP1 := hPO.2.1
  have hP2 := hPO.2.2
  obtain ⟨vo, hvo⟩ : ∃ vo, vo = (P S).vol := ⟨_, rfl⟩
  obtain ⟨va, hva⟩ : ∃ va, va = (P S).val := ⟨_, rfl⟩
  have HVO := hid hvo
  have HVA := hid hva
  rw [← hvo] at hP1
  rw [← hva] at hP2
  rw [← hvo, ← hva] at hrr
  have HRR := hid hrr
  have hone : oneB ci ck (S : Int) ct cd cp cq = true := hc
  have HONE := hid hone
  obtain ⟨W0, hW0⟩ : ∃ W, W = (w.alloc (.cells (C7.cells ⟨ci, ck, (S : Int), ct, cd, cp, cq⟩).toArray 42)).alloc box3 := ⟨_, rfl⟩
  have hA0 : Ap w W0 ⟨ci, ck, (S : Int), ct, cd, cp, cq⟩ := by
    rw [hW0]
    exact ⟨((Below.refl _ w).alloc (Nat.le_refl _) _).alloc (by simp) _, obAlloc (heap_alloc_new w _), by rw [show w.heap.size + 1 = (w.alloc (.cells (C7.cells ⟨ci, ck, (S : Int), ct, cd, cp, cq⟩).toArray 42)).heap.size by simp]; exact heap_alloc_new _ _⟩
  have hs0 : w.heap.size + 2 ≤ W0.heap.size := (Array.getElem?_eq_some_iff.1 hA0.n1).1
  have HA0 := hid hA0
  have HW0 := hid hW0
  have HS0 := hid hs0
  obtain ⟨a, cap, nv, hv, hnv⟩ := (h.row S hS).asSlice
  have HV := hid hv
  have hrow := h.row S hS
  rw [hv] at hrow
  have HROW := hid hrow
  have HLK : Hid ((L S).length ≤ 1000) := hid (by have := (h.rel S hS).len; omega)
  have hxw := (h.cells hS).1
  have HSS := hid hS
  have hSz : (S : Int) < 4 := by omega
  have hSn : (0 : Int) ≤ (S : Int) := by omega
  clear h hok hcc hPO hR hdo hA hc hone hvb hrr hvo hva hW0 hA0 hs0 hv hnv hrow c
  go_enter Try.func10, Try.ntmps10
  go_wp2_with fail
  go_at_call 23
  show Calls _ _ _ ((w.alloc (.cells (C7.cells ⟨ci, ck, (S : Int), ct, cd, cp, cq⟩).toArray 42)).alloc box3) _
  rw [← HW0.out]
  refine (rOne _ _ _ _ _ _ _ W0).mono ?_
  rintro e w1 ⟨rfl, hB1⟩
  rw [HONE.out]
  have HA1 := hid (HA0.out.below (hB1.mono HS0.out))
  have HS1 : Hid (w.heap.size + 2 ≤ w1.heap.size) := hid (Nat.le_trans HS0.out hB1.size)
  have HRO1 := hid (OwnG.on HROW.out HA1.out.be)
  obtain ⟨i0, i1, i2, i3, i4, i5, i6⟩ := HA1.out.cells
  simp only at i0 i1 i2 i3 i4 i5 i6
  obtain ⟨hx1, g0, _, _, _⟩ := (HM.out.on HA1.out.be).cells HSS.out
  rw [HV.out] at g0
  clear hB1
  go_upto_region 7 with (at_builtin; refine wpList_copy_or rfl _ _ rfl (w0 := w1) rfl rfl rfl rfl HRO1.out HLK.out ?_; (
    intro v2 w2 hR2 hB2
    have hrp := Rp.start HA1.out HS1.out hB2 hR2
    obtain ⟨a2, c2, n2, rfl, hn2⟩ := hR2.asSlice
    have HRP := hid hrp
    clear hR2 hB2 hn2 hrp i0 i1 i2 i3 i4 i5 i6 g0))
  generalize hW2 : (w2.alloc (.cells #[.slice a2 n2 c2] 29)).alloc box3 = W2 at HRP ⊢
  generalize hN7 : w2.heap.size = N7 at HRP ⊢
  clear hW2 hN7
  obtain ⟨i0, i1, i2, i3, i4, i5, i6⟩ := HRP.out.ap.cells
  simp only at i0 i1 i2 i3 i4 i5 i6
  have hNW : N7 + 1 < W2.heap.size := (Array.getElem?_eq_some_iff.1 HRP.out.n8).1
  go_wp2_with fail
  go_at_call 26
  refine (HPL.out _ _ _ _ HRP.out.rb HRP.out.row).mono ?_
  intro e w3 hd
  obtain ⟨fa, fn, fc, v3, L3, rfl, hb8, hfn, hrel3, hq3⟩ := HRP.out.act hd
  simp only at hfn hrel3 hq3 ⊢
  obtain ⟨a3, c3, n3, rfl, hn3⟩ := OwnG.asSlice hq3.row
  clear hn3
  have HQ := hid hq3
  have HR3 := hid hrel3
  have HFN := hid hfn
  have y0 := cellAt' hb8 0; have y1 := cellAt' hb8 1; have y2 := cellAt' hb8 2
  have yf : ∀ f, w3.frozen? ⟨N7 + 1, f, none⟩ = false := fun f => by simp [World.frozen?, hb8]
  simp at y0 y1 y2
  clear hd hb8 hfn hrel3 hq3 i0 i1 i2 i3 i4 i5 i6 hNW
  go_upto_region 13 with fail
  generalize hW4 : ((w3.setCell ⟨N7 + 1, 0, none⟩ (.int .i64 err)).setCell ⟨N7 + 1, 1, none⟩ (.slice fa fn fc)).setCell ⟨N7 + 1, 2, none⟩ (.int .i64 left) = W4 at HQ ⊢
  clear hW4 y0 y1 y2 yf
  have hfn8 : fn ≤ 8 := by have := HFN.out; have := HDO.out.2; omega
  obtain ⟨hx4, _, g1, g2, _⟩ := (HM.out.on HQ.out.ap.be).cells HSS.out
  rw [← HVO.out] at g1
  rw [← HVA.out] at g2
  obtain ⟨z0, z1, z2⟩ := HQ.out.rep
  have HS3 : Hid (∀ k y, fs[k]? = some y → ∃ g, fa = some ⟨g, 0, none⟩ ∧ g < W4.heap.size ∧ W4.cell? ⟨g, k * 3, none⟩ = some (.int .i64 y.i) ∧ W4.cell? ⟨g, k * 3 + 1, none⟩ = some (.int .i64 y.p) ∧ W4.cell? ⟨g, k * 3 + 2, none⟩ = some (.int .i64 y.q)) := hid fun k y hk => by
    rcases OwnF.shape HQ.out.fl with ⟨_, e⟩ | ⟨g, cap', e, _, _, _, hg, hc, _⟩
    · rw [e] at hk; simp at hk
    · injection e with e3 _ _
      exact ⟨g, e3, hg, hc k y hk⟩
  go_wp2_with fail
  clear g1 g2
  go_loopg [9, 10, 11] fn (fun gg s9 s10 s11 wr => ∃ k n : Nat, k ≤ fn ∧ fn - k ≤ gg ∧ s11 = .int .i64 k ∧ s9 = .int .i64 ((vo + volF (fs.take k) : Nat) : Int) ∧ s10 = .int .i64 ((va + valF (fs.take k) : Nat) : Int) ∧ wr = W4.drewN n)
  case atStart => exact ⟨0, 0, by omega, by omega, rfl, by simp [volF], by simp [valF], rfl⟩
  case round =>
    obtain ⟨k, n, hk, hgg, rfl, rfl, rfl, rfl⟩ := hrel
    have hbd := vol_bound (fs := fs.take k) fun f hf => HDO.out.1 f (List.mem_of_mem_take hf)
    have hlen : (fs.take k).length ≤ 8 := by rw [List.length_take]; have := HDO.out.2; omega
    by_cases hlt : k < fn
    · have hltz : (k : Int) < (fn : Int) := by omega
      obtain ⟨y, hy⟩ : ∃ y, fs[k]? = some y := ⟨fs[k]'(by rw [← HFN.out]; exact hlt), List.getElem?_eq_getElem (by rw [← HFN.out]; exact hlt)⟩
      obtain ⟨g, rfl, hg, k0, k1, k2⟩ := HS3.out k y hy
      have hok := HDO.out.1 y (List.mem_of_getElem? hy)
      have hmb := mul_bound hok.1 hok.2.1 hok.2.2.1 hok.2.2.2
      have hvt := vol_take hy
      have hq1 : 1 ≤ y.q ∧ y.q ≤ 1048576 := ⟨hok.2.2.1, hok.2.2.2⟩
      obtain ⟨za, hza⟩ : ∃ za, za = vo + volF (fs.take k) := ⟨_, rfl⟩
      obtain ⟨zb, hzb⟩ : ∃ zb, zb = va + valF (fs.take k) := ⟨_, rfl⟩
      have HE1 : Hid (((vo + volF (fs.take (k + 1)) : Nat) : Int) = (za : Int) + y.q) := hid (by rw [hza, hvt.1]; omega)
      have HE2 : Hid (((va + valF (fs.take (k + 1)) : Nat) : Int) = (zb : Int) + y.p * y.q) := hid (by rw [hzb, hvt.2]; omega)
      have hwa : wrap64 ((za : Int) + y.q) = (za : Int) + y.q := by unfold wrap64; omega
      obtain ⟨pq, hpq⟩ : ∃ pq, pq = y.p * y.q := ⟨_, rfl⟩
      have hw1 : IntKind.i64.wrap (y.p * y.q) = y.p * y.q := by rw [IntKind.wrap_i64]; omega
      have hw2 : IntKind.i64.wrap ((zb : Int) + y.p * y.q) = (zb : Int) + y.p * y.q := by rw [IntKind.wrap_i64]; omega
      rw [← hza, ← hzb]
      clear hy hok hmb hvt hza hzb hbd hlen hpq
      go_wp2_with fail
      go_quiet (fail)
      go_wp2_with fail
      go_roundg (fn - (k + 1))
      case measure => omega
      case rel => exact ⟨k + 1, _, by omega, by omega, by go_num, by rw [HE1.out, hwa], by rw [HE2.out], rfl⟩
    · have hltz : ¬ (k : Int) < (fn : Int) := by omega
      have hT : fs.take k = fs := List.take_of_length_le (by have := HFN.out; omega)
      rw [hT] at hbd hlen ⊢
      obtain ⟨za, hza⟩ : ∃ za, za = vo + volF fs := ⟨_, rfl⟩
      obtain ⟨zb, hzb⟩ : ∃ zb, zb = va + valF fs := ⟨_, rfl⟩
      rw [← hza, ← hzb]
      have HZA := hid hza
      have HZB := hid hzb
      have HQ5 := hid (HQ.out.on (belowDrewN (Below.refl _ W4) n))
      generalize W4.drewN n = W5 at HQ5 ⊢
      clear hbd hlen hza hzb z0 z1 z2 hx4 hT
      obtain ⟨⟨q0, q1, q2⟩, qf⟩ := HQ5.out.ap.box
      obtain ⟨hx5, g0, g1, g2, gf⟩ := (HM.out.on HQ5.out.ap.be).cells HSS.out
      obtain ⟨z0, z1, z2⟩ := HQ5.out.rep
      obtain ⟨hlt7, b0, bf⟩ := HQ5.out.rb.cells
      by_cases ho : overB (vo + volF fs) (va + valF fs) = true
      · have HEE := hid (HRR.out.trans (if_pos ho))
        have ho2 := ho
        rw [← HZA.out, ← HZB.out] at ho2
        unfold overB at ho2
        have ho3 := of_decide_eq_true ho2
        have HBE := hid HQ5.out.ap.be
        clear ho ho2
        by_cases hv1 : 1099511627776 < za
        · have hv1z : (1099511627776 : Int) < (za : Int) := by omega
          clear ho3
          go_wp2_with fail
          refine bodyPost_ret (v := rpV 8 (.slice none 0 0) 0) (by simp [results, Try.results10, go_sem, q0, q1, q2]) rfl ?_
          rw [HEE.out]
          exact ⟨_, v, L, rfl, World.ownsRow_nil _ _ _ _, HM.out.on (below3 HBE.out (by omega) _ _ _), Tch.ofBelow (below3 HBE.out (by omega) _ _ _)⟩
        · have hv1z : ¬ (1099511627776 : Int) < (za : Int) := by omega
          have hv2z : (1099511627776 : Int) < (zb : Int) := by omega
          clear ho3
          go_wp2_with fail
          refine bodyPost_ret (v := rpV 8 (.slice none 0 0) 0) (by simp [results, Try.results10, go_sem, q0, q1, q2]) rfl ?_
          rw [HEE.out]
          exact ⟨_, v, L, rfl, World.ownsRow_nil _ _ _ _, HM.out.on (below3 HBE.out (by omega) _ _ _), Tch.ofBelow (below3 HBE.out (by omega) _ _ _)⟩
      · have hee := HRR.out.trans (if_neg ho)
        have ho2 := ho
        rw [← HZA.out, ← HZB.out] at ho2
        unfold overB at ho2
        simp only [decide_eq_true_eq] at ho2
        have hv1z : ¬ (1099511627776 : Int) < (za : Int) := by omega
        have hv2z : ¬ (1099511627776 : Int) < (zb : Int) := by omega
        clear ho ho2
        have HST : Hid (stepF (P S) (err, fs, left, bs', ss') = ⟨bs', ss', za, zb⟩) := hid (by unfold stepF; simp only; rw [HZA.out, HZB.out, HVO.out, HVA.out])
        rw [HST.out] at hee
        have HEE := hid hee
        clear hee
        have HFIN := hid (fun a b d => HQ5.out.fin HM.out HSS.out ⟨bs', ss', za, zb⟩ HR3.out a b d)
        have hn1 : ¬ x = N7 + 1 := by have := HQ5.out.h8; omega
        have hn2 : ¬ N7 + 1 = x := by omega
        have hn3 : ¬ x = w.heap.size + 1 := by omega
        have hn4 : ¬ w.heap.size + 1 = x := by omega
        have hn5 : ¬ w.heap.size + 1 = N7 + 1 := by have := HQ5.out.h8; omega
        have hn6 : ¬ N7 + 1 = w.heap.size + 1 := by omega
        go_wp2_with fail
        go_still_tail 6, (by kernel_rfl)
        change wpList _ _ _ _ _ W5.drew
        go_wp2_with fail
        refine bodyPost_ret (v := rpV err (.slice fa fn fc) left) (by simp [results, Try.results10, go_sem, q0, q1, q2]) rfl ?_
        rw [HEE.out]
        have hf := HFIN.out (.int .i64 err) (.slice fa fn fc) (.int .i64 left)
        exact ⟨_, _, _, rfl, OwnG.on hf.1 (belowDrew (Below.refl _ _)), hf.2.1.on (belowDrew (Below.refl _ _)), hf.2.2.drew⟩
end Go.Proofs.Ytdgllpfccdbdnaa

namespace Go.Proofs.Ytdgllpfccdbdnaa
set_option linter.unusedVariables false
set_option linter.unusedSimpArgs false
open Go.RowKit
open Go.Lib (hid)

set_option maxHeartbeats 3200000 in
set_option maxRecDepth 100000 in
theorem rApp_bad {w : World} {x : Nat} {v : Nat → Value} {L : Nat → List Od} {P : Nat → Pl} (h : RM w x v L P) (c : C7) (hc : c.ok = false) : Calls Try.prog 10 #[ptr x, cmV c.i c.k c.s c.t c.d c.p c.q] w fun e w' => RAppl w w' x e (applyF c P) := by
  have HF : Hid (applyF c P = (1, [], 0, P)) := hid (by unfold applyF; rw [if_pos hc])
  rw [HF.out]
  have HM := hid h
  obtain ⟨W0, hW0⟩ : ∃ W, W = (w.alloc (.cells c.cells.toArray 42)).alloc box3 := ⟨_, rfl⟩
  have hA0 : Ap w W0 c := by
    rw [hW0]
    exact ⟨((Below.refl _ w).alloc (Nat.le_refl _) _).alloc (by simp) _, obAlloc (heap_alloc_new w _), by rw [show w.heap.size + 1 = (w.alloc (.cells c.cells.toArray 42)).heap.size by simp]; exact heap_alloc_new _ _⟩
  have HS0 : Hid (w.heap.size + 2 ≤ W0.heap.size) := hid (Array.getElem?_eq_some_iff.1 hA0.n1).1
  have HA0 := hid hA0
  have HW0 := hid hW0
  have hone : oneB c.i c.k c.s c.t c.d c.p c.q = false := hc
  have HONE := hid hone
  clear h hc hW0 hA0 hone
  go_enter Try.func10, Try.ntmps10
  go_wp2_with fail
  go_at_call 23
  show Calls _ _ _ ((w.alloc (.cells c.cells.toArray 42)).alloc box3) _
  rw [← HW0.out]
  refine (rOne _ _ _ _ _ _ _ W0).mono ?_
  rintro e w1 ⟨rfl, hB1⟩
  rw [HONE.out]
  have HA1 := hid (HA0.out.below (hB1.mono HS0.out))
  obtain ⟨⟨k0, k1, k2⟩, fz⟩ := HA1.out.box
  clear hB1
  go_wp2_with fail
  refine bodyPost_ret (v := rpV 1 (.slice none 0 0) 0) (by simp [results, Try.results10, go_sem, k0, k1, k2]) rfl ?_
  exact ⟨_, v, L, rfl, World.ownsRow_nil _ _ _ _, HM.out.on (below3 HA1.out.be (by omega) _ _ _), Tch.ofBelow (below3 HA1.out.be (by omega) _ _ _)⟩

theorem rApp {w : World} {x : Nat} {v : Nat → Value} {L : Nat → List Od} {P : Nat → Pl} (h : RM w x v L P) (hok : ∀ i, i < 4 → PlOk (P i)) (c : C7) : Calls Try.prog 10 #[ptr x, cmV c.i c.k c.s c.t c.d c.p c.q] w fun e w' => RAppl w w' x e (applyF c P) := by
  rcases hc : c.ok with _ | _
  · exact rApp_bad h c hc
  · obtain ⟨h0, h3⟩ := ok_sym hc
    obtain ⟨ci, ck, cs, ct, cd, cp, cq⟩ := c
    simp only at h0 h3 hc ⊢
    obtain ⟨S, rfl⟩ : ∃ S : Nat, cs = (S : Int) := ⟨cs.toNat, by omega⟩
    by_cases hk0 : ck = 0
    · subst hk0
      exact rAppP h hok S (by omega) ci ct cd cp cq hc
    · by_cases hk1 : ck = 1
      · subst hk1
        exact rAppC h hok S (by omega) ci ct cd cp cq hc
      · exact rAppA h hok S (by omega) ci ct cd cp cq ck hk0 hk1 hc
end Go.Proofs.Ytdgllpfccdbdnaa
