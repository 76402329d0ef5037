/- The program's market: Apply, its boxes on the way. -/
import Derived.Test.YtdgllpfccdbdnaaKApply
namespace Go.Proofs.Ytdgllpfccdbdnaa
set_option linter.unusedVariables false
set_option linter.unusedSimpArgs false
open Go.RowKit
open Go.Lib (hid)

/-- Behind what the book did: the reply's box. -/
structure Ap5 (w W : World) (c : C7) (N N6 q : Nat) (x : Value) (err : Int) (f : Value) (left : Int) (bs ss : List Od) (fs : List Fl) : Prop where
  ap3 : Ap3 w W c N q x bs ss
  n6 : W.heap[N6]? = some (.cells #[.int .i64 err, f, .int .i64 left] 37 (0, 0))
  h6 : w.heap.size + 2 ≤ N6
  fl : OwnF W (w.heap.size + 2) f fs
theorem Ap5.rep {w W : World} {c : C7} {N N6 q : Nat} {x f : Value} {err left : Int} {bs ss : List Od} {fs : List Fl} (h : Ap5 w W c N N6 q x err f left bs ss fs) :
    W.cell? ⟨N6, 0, none⟩ = some (.int .i64 err) ∧ W.cell? ⟨N6, 1, none⟩ = some f ∧ W.cell? ⟨N6, 2, none⟩ = some (.int .i64 left) := by
  have h0 := h.n6
  exact ⟨by rw [cellAt' h0]; rfl, by rw [cellAt' h0]; rfl, by rw [cellAt' h0]; rfl⟩
theorem Ap3.on {w W W' : World} {c : C7} {N q : Nat} {x : Value} {bs ss : List Od} (h : Ap3 w W c N q x bs ss) (hb : Below W.heap.size W W') : Ap3 w W' c N q x bs ss := by
  obtain ⟨va, vb, hK⟩ := h.bk
  exact ⟨h.ap.below (hb.mono (Nat.le_of_lt (Nat.lt_of_le_of_lt h.h5 h.cells.2.2))), obOn h.n5 hb h.cells.2.2, h.h5, va, vb, hK.on hb⟩
theorem Ap3.does {w W w4 : World} {c : C7} {N q : Nat} {x va vb : Value} {bs ss bs' ss' : List Od} {e : Ending} {err left : Int} {fs : List Fl} (h : Ap3 w W c N q x bs ss) (hK : BkA W (w.heap.size + 2) q va vb bs ss)
    (hT : Told W w4 (w.heap.size + 2) q va vb e err fs left bs' ss') : ∃ fa fn fc, e = .returned (rpV err (.slice fa fn fc) left) ∧
      Ap5 w (w4.alloc (.cells #[.int .i64 err, .slice fa fn fc, .int .i64 left] 37)) c N w4.heap.size q x err (.slice fa fn fc) left bs' ss' fs := by
  obtain ⟨f, rfl, hf, va', vb', hK', ht, _, _⟩ := hT
  obtain ⟨fa, fc, fn, rfl, _⟩ := hf.asSlice
  have hsz : w.heap.size + 2 ≤ W.heap.size := by have := h.h5; have := h.cells.2.2; omega
  have hb : Below (w.heap.size + 2) W w4 := ht.below (fun k hk => (hK.nb k hk).1) hsz
  have hal : Below w4.heap.size w4 (w4.alloc (.cells #[.int .i64 err, .slice fa fn fc, .int .i64 left] 37)) := (Below.refl _ w4).alloc (Nat.le_refl _) _
  have hn5 : w4.heap[N]? = some (.cells #[ptr q, x] 59 (0, 0)) := ht.ob h.n5 (hK.offT h.n5 (by decide) (by decide))
  have h4 : Ap3 w w4 c N q x bs' ss' := ⟨h.ap.below hb, hn5, h.h5, va', vb', hK'⟩
  exact ⟨fa, fn, fc, rfl, h4.on hal, heap_alloc_new w4 _, Nat.le_trans hsz hb.size, (hf.on hal).mono hsz⟩
theorem Ap5.below {w W W' : World} {c : C7} {N N6 q : Nat} {x f : Value} {err left : Int} {bs ss : List Od} {fs : List Fl} (h : Ap5 w W c N N6 q x err f left bs ss fs) (hb : Below W.heap.size W W') : Ap5 w W' c N N6 q x err f left bs ss fs :=
  ⟨h.ap3.on hb, obOn h.n6 hb (Array.getElem?_eq_some_iff.1 h.n6).1, h.h6, h.fl.on hb⟩
theorem Ap5.turned {w W W' : World} {c : C7} {N N6 q : Nat} {x f : Value} {err left : Int} {bs ss : List Od} {fs : List Fl} (h : Ap5 w W c N N6 q x err f left bs ss fs) (hb : Below W.drew.heap.size W.drew W') : Ap5 w W' c N N6 q x err f left bs ss fs :=
  h.below (undrew hb)
theorem set_1 {W : World} {N : Nat} {a b : Value} {T : TypeId} (h : W.heap[N]? = some (.cells #[a, b] T (0, 0))) (y : Value) : (W.setCell ⟨N, 1, none⟩ y).heap[N]? = some (.cells #[a, y] T (0, 0)) := by
  simp [World.setCell, Array.getElem?_modify, h]
/-- A block of another type is none of fills'. -/
theorem OwnF.offT {w : World} {B N : Nat} {v : Value} {fs : List Fl} {cs : Array Value} {T : TypeId} (h : OwnF w B v fs) (hN : w.heap[N]? = some (.cells cs T (0, 0))) (h2 : T ≠ 55) : v.ownBlock ≠ some N := by
  intro e
  rcases h.2 with ⟨rfl, _⟩ | ⟨g, cap, cur, rfl, _, hg, _⟩
  · cases e
  · simp [Value.ownBlock] at e
    subst e
    rw [hg] at hN
    injection hN with h3
    injection h3 with h4 h5
    exact h2 h5.symm
theorem ob_ne {W : World} {N M : Nat} {cs ds : Array Value} {T U : TypeId} (h : W.heap[N]? = some (.cells cs T (0, 0))) (k : W.heap[M]? = some (.cells ds U (0, 0))) (hT : T ≠ U) : N ≠ M := by
  rintro rfl
  rw [h] at k
  injection k with h3
  injection h3 with h4 h5
  exact hT h5
/-- The place's box, turned. -/
theorem Ap5.put {w W : World} {c : C7} {N N6 q : Nat} {x f : Value} {err left : Int} {bs ss : List Od} {fs : List Fl} (h : Ap5 w W c N N6 q x err f left bs ss fs) (y : Value) : Ap5 w (W.setCell ⟨N, 1, none⟩ y) c N N6 q y err f left bs ss fs := by
  obtain ⟨va, vb, hK⟩ := h.ap3.bk
  have ht : Tch (fun k => k = N) W (W.setCell ⟨N, 1, none⟩ y) := Tch.set _ _ _ rfl
  refine ⟨⟨h.ap3.ap.below ((Below.refl _ W).setCell h.ap3.h5 _), set_1 h.ap3.n5 y, h.ap3.h5, va, vb, hK.tch ht fun k hk e => ?_⟩, ht.ob h.n6 (ob_ne h.n6 h.ap3.n5 (by decide)), h.h6, OwnG.tch h.fl ht fun k hk e => ?_⟩
  · subst e; exact hK.offT h.ap3.n5 (by decide) (by decide) hk
  · subst e; exact OwnF.offT h.fl h.ap3.n5 (by decide) hk
/-- The market has the place: what is told, and left. -/
theorem Ap5.fin {w W : World} {c : C7} {N N6 q' m S : Nat} {q : Nat → Nat} {P : Nat → Pl} {x f : Value} {err left : Int} {bs ss : List Od} {fs : List Fl} (h : Ap5 w W c N N6 q' x err f left bs ss fs) (hM : Mk w m q P) (hS : S < 4) (p : Pl) (hb : p.bs = bs) (hs : p.ss = ss) (W1 : World)
    (hW : W1 = (W.drew.setCell ⟨m, 2 * S, none⟩ (ptr q')).setCell ⟨m, 2 * S + 1, none⟩ (cx p)) :
    ((W1.cell? ⟨w.heap.size + 1, 0, none⟩ = some (.int .i64 0) ∧ W1.cell? ⟨w.heap.size + 1, 1, none⟩ = some (.slice none 0 0) ∧ W1.cell? ⟨w.heap.size + 1, 2, none⟩ = some (.int .i64 0)) ∧ ∀ f, W1.frozen? ⟨w.heap.size + 1, f, none⟩ = false) ∧
    (W1.cell? ⟨N6, 0, none⟩ = some (.int .i64 err) ∧ W1.cell? ⟨N6, 1, none⟩ = some f ∧ W1.cell? ⟨N6, 2, none⟩ = some (.int .i64 left)) ∧
    ∀ x y z, OwnF (((W1.setCell ⟨w.heap.size + 1, 0, none⟩ x).setCell ⟨w.heap.size + 1, 1, none⟩ y).setCell ⟨w.heap.size + 1, 2, none⟩ z) w.heap.size f fs ∧
      Mk (((W1.setCell ⟨w.heap.size + 1, 0, none⟩ x).setCell ⟨w.heap.size + 1, 1, none⟩ y).setCell ⟨w.heap.size + 1, 2, none⟩ z) m (upd q S q') (upd P S p) ∧
      Tch (fun k => k = m) w (((W1.setCell ⟨w.heap.size + 1, 0, none⟩ x).setCell ⟨w.heap.size + 1, 1, none⟩ y).setCell ⟨w.heap.size + 1, 2, none⟩ z) := by
  have hm : m < w.heap.size := (Array.getElem?_eq_some_iff.1 hM.ob).1
  have hMW := hM.on h.ap3.ap.be
  have ht : Tch (fun k => k = m) W W1 := by rw [hW]; exact ((Tch.refl _ W).drew.trans (Tch.set (S := fun k => k = m) _ _ _ rfl)).trans (Tch.set (S := fun k => k = m) _ _ _ rfl)
  obtain ⟨va, vb, hK⟩ := h.ap3.bk
  have hmo : W.heap[m]? = some (MkO fun i => (ptr (q i), cx (P i))) := hMW.ob
  have n1 : W1.heap[w.heap.size + 1]? = some box3 := ht.ob h.ap3.ap.n1 (by omega)
  have n6 : W1.heap[N6]? = some (.cells #[.int .i64 err, f, .int .i64 left] 37 (0, 0)) := ht.ob h.n6 (by have := h.h6; omega)
  have fl : OwnF W1 (w.heap.size + 2) f fs := OwnG.tch h.fl ht fun k hk e => by have := (h.fl.lt k hk).1; omega
  have ob1 : W1.heap[m]? = some (MkO (upd (fun i => (ptr (q i), cx (P i))) S (ptr q', cx p))) := by rw [hW]; exact MkO.set (w := W.drew) hmo hS _ _
  have hq : ∀ i, i < 4 → BkQ W1 (upd q S q' i) (upd P S p i) := fun i hi => by
    by_cases e : i = S
    · subst e; rw [upd_at, upd_at]
      exact BkQ.tch ⟨va, vb, by rw [hb, hs]; exact hK.low (Nat.zero_le _)⟩ hmo ht
    · rw [upd_off _ _ e, upd_off _ _ e]; exact (hMW.at' i hi).tch hmo ht
  have hup : (fun i => (ptr (upd q S q' i), cx (upd P S p i))) = upd (fun i => (ptr (q i), cx (P i))) S (ptr q', cx p) := by
    funext i; unfold upd; split <;> rfl
  refine ⟨⟨⟨by rw [cellAt' n1]; rfl, by rw [cellAt' n1]; rfl, by rw [cellAt' n1]; rfl⟩, fun f => by simp [World.frozen?, n1]⟩, ⟨by rw [cellAt' n6]; rfl, by rw [cellAt' n6]; rfl, by rw [cellAt' n6]; rfl⟩, fun x y z => ?_⟩
  have ht2 : Tch (fun k => k = w.heap.size + 1) W1 (((W1.setCell ⟨w.heap.size + 1, 0, none⟩ x).setCell ⟨w.heap.size + 1, 1, none⟩ y).setCell ⟨w.heap.size + 1, 2, none⟩ z) :=
    ((Tch.set (S := fun k => k = w.heap.size + 1) _ _ _ rfl).trans (Tch.set (S := fun k => k = w.heap.size + 1) _ _ _ rfl)).trans (Tch.set (S := fun k => k = w.heap.size + 1) _ _ _ rfl)
  refine ⟨(OwnG.tch fl ht2 fun k hk e => by have := (fl.lt k hk).1; omega).mono (by omega), ⟨by rw [hup]; exact ht2.ob ob1 (by omega), fun i hi => ?_⟩, ((Tch.ofBelow h.ap3.ap.be).trans ht).next ht2 fun k hk => .inr (by omega)⟩
  obtain ⟨ua, ub, hb⟩ := hq i hi
  exact ⟨ua, ub, hb.tch ht2 fun k hk e => by subst e; exact hb.offT n1 (by decide) (by decide) hk⟩
theorem ok_upd {P : Nat → Pl} {S : Nat} {err left : Int} {fs : List Fl} {bs ss : List Od} (h : ∀ i, i < 4 → PlOk (P i)) (hF : FineB bs ss) (ho : overB ((P S).vol + volF fs) ((P S).val + valF fs) = false) (i : Nat) (hi : i < 4) : PlOk (upd P S (stepF (P S) (err, fs, left, bs, ss)) i) := by
  by_cases e : i = S
  · subst e; rw [upd_at]
    unfold overB at ho
    have := of_decide_eq_false ho
    exact ⟨hF, by simp only [stepF]; omega, by simp only [stepF]; omega⟩
  · rw [upd_off _ _ e]; exact h i hi

end Go.Proofs.Ytdgllpfccdbdnaa
