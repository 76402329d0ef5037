/- The document's book: Place, its boxes on the way. -/
import Derived.Test.YtdgllpfccdbdnaaKRef5
import Derived.Test.YtdgllpfccdbdnaaKStep
namespace Go.Proofs.Ytdgllpfccdbdnaa
set_option linter.unusedVariables false
set_option linter.unusedSimpArgs false
open Go.RowKit
open Go.Lib (hid)

theorem undrewP {w w' : World} (h : Below w.drew.heap.size w.drew w') : Below w.heap.size w w' := ⟨h.1, h.2, h.3, h.4, h.5⟩
theorem OwnF.offR {w : World} {B N : Nat} {v : Value} {fs : List Fl} {cs : Array Value} {T : TypeId} (h : OwnF w B v fs) (hN : w.heap[N]? = some (.cells cs T (0, 0))) (h2 : T ≠ 55) : v.ownBlock ≠ some N := own_offT h hN h2
theorem row_ob {w : World} {B : Nat} {v : Value} {l : List Od} (h : OwnR w B v l) {g : Nat} (hg : v.ownBlock = some g) : ∃ cur, w.heap[g]? = some (.cells cur 71 (0, 0)) := by
  rcases h.2 with ⟨rfl, _⟩ | ⟨g', cap, cur, rfl, _, h1, _⟩
  · cases hg
  · simp [Value.ownBlock] at hg
    subst hg
    exact ⟨cur, h1⟩
/-- What an act of the document's book tells and leaves. -/
def DocTo (w w' : World) (b : Nat) (e : Ending) (r : Res) : Prop := ∃ f L', e = .returned (rpV r.1 f r.2.2.1) ∧ OwnF w' w.heap.size f r.2.1 ∧ RTo w w' b L' ∧ Rel L' r.2.2.2.1 r.2.2.2.2
theorem DocTo.of {w w' : World} {b : Nat} {err left : Int} {fs : List Fl} {L' : List Od} {r : Res} {f : Value} (h : AgreeP err fs left L' r) (hf : OwnF w' w.heap.size f fs) (ht : RTo w w' b L') : DocTo w w' b (.returned (rpV err f left)) r := by
  obtain ⟨h1, h2, h3, h4⟩ := h
  exact ⟨f, L', by rw [h1, h3], by rw [h2]; exact hf, ht, h4⟩
theorem DocTo.of2 {w w' : World} {b : Nat} {e : Ending} {q : Int × Int × List Od} {r : Res} (h : Agree q r) (he : e = .returned (rpV q.1 (.slice none 0 0) q.2.1)) (ht : RTo w w' b q.2.2) : DocTo w w' b e r := by
  obtain ⟨h1, h2, h3, h4⟩ := h
  exact ⟨_, _, by rw [he, h1, h3], by rw [h2]; exact World.ownsRow_nil _ _ _ _, ht, h4⟩

abbrev ob4 (i s p n : Int) : Obj := .cells #[.int .i64 i, .int .i64 s, .int .i64 p, .int .i64 n] 71 (0, 0)
/-- On the way: the order's box, the reply's box, the book that is tried, the fills. -/
structure Lp (w wr : World) (i s p : Int) (N : Nat) (vc f : Value) (left : Int) (Lc : List Od) (fs : List Fl) : Prop where
  be : Below w.heap.size w wr
  n3 : wr.heap[w.heap.size]? = some (ob4 i s p left)
  n4 : wr.heap[w.heap.size + 1]? = some box3
  hN : w.heap.size + 2 ≤ N
  rb : RB wr N vc
  row : OwnR wr (w.heap.size + 2) vc Lc
  fl : OwnF wr (w.heap.size + 2) f fs
variable {w wr : World} {i s p : Int} {N : Nat} {vc f : Value} {left : Int} {Lc : List Od} {fs : List Fl}
theorem Lp.cells (h : Lp w wr i s p N vc f left Lc fs) : (w.heap.size + 1 < wr.heap.size ∧ wr.cell? ⟨w.heap.size, 0, none⟩ = some (.int .i64 i) ∧ wr.cell? ⟨w.heap.size, 1, none⟩ = some (.int .i64 s) ∧ wr.cell? ⟨w.heap.size, 2, none⟩ = some (.int .i64 p) ∧ wr.cell? ⟨w.heap.size, 3, none⟩ = some (.int .i64 left) ∧ ∀ j, wr.frozen? ⟨w.heap.size, j, none⟩ = false) ∧
    wr.cell? ⟨w.heap.size + 1, 0, none⟩ = some (.int .i64 0) ∧ wr.cell? ⟨w.heap.size + 1, 1, none⟩ = some (.slice none 0 0) ∧ wr.cell? ⟨w.heap.size + 1, 2, none⟩ = some (.int .i64 0) ∧ ∀ j, wr.frozen? ⟨w.heap.size + 1, j, none⟩ = false := by
  have h3 := h.n3
  have h4 := h.n4
  exact ⟨⟨(Array.getElem?_eq_some_iff.1 h4).1, by rw [cellAt' h3]; rfl, by rw [cellAt' h3]; rfl, by rw [cellAt' h3]; rfl, by rw [cellAt' h3]; rfl, fun j => by simp [World.frozen?, h3]⟩, by rw [cellAt' h4]; rfl, by rw [cellAt' h4]; rfl, by rw [cellAt' h4]; rfl, fun j => by simp [World.frozen?, h4]⟩
theorem Lp.on {w' : World} (h : Lp w wr i s p N vc f left Lc fs) (hb : Below wr.heap.size wr w') : Lp w w' i s p N vc f left Lc fs :=
  ⟨h.be.trans (hb.mono h.be.size), obOn h.n3 hb (by have := h.cells.1.1; omega), obOn h.n4 hb h.cells.1.1, h.hN, h.rb.on hb, OwnG.on h.row hb, OwnG.on h.fl hb⟩
/-- So much is left of the order. -/
theorem Lp.less (h : Lp w wr i s p N vc f left Lc fs) (q : Int) : Lp w (wr.setCell ⟨w.heap.size, 3, none⟩ (.int .i64 q)) i s p N vc f q Lc fs := by
  have ht : Tch (fun k => k = w.heap.size) wr (wr.setCell ⟨w.heap.size, 3, none⟩ (.int .i64 q)) := Tch.set _ _ _ rfl
  have h3 := h.n3
  refine ⟨h.be.setCell (Nat.le_refl _) _, ?_, ht.ob h.n4 (by omega), h.hN, ht.ob h.rb (by have := h.hN; omega), OwnG.tch h.row ht fun k hk e => ?_, OwnG.tch h.fl ht fun k hk e => ?_⟩
  · simp [World.setCell, Array.getElem?_modify, h3]
  · have := (OwnG.lt h.row k hk).1; omega
  · have := (OwnG.lt h.fl k hk).1; omega
/-- So much is left of one that rests. -/
theorem Lp.turn {g n c k : Nat} {x : Od} (h : Lp w wr i s p N (.slice (some ⟨g, 0, none⟩) n c) f left Lc fs) (hk : Lc[k]? = some x) (q : Int) : Lp w (wr.setCell ⟨g, k * 4 + 3, none⟩ (.int .i64 q)) i s p N (.slice (some ⟨g, 0, none⟩) n c) f left (Lc.set k { x with n := q }) fs := by
  have ht : Tch (fun k => k = g) wr (wr.setCell ⟨g, k * 4 + 3, none⟩ (.int .i64 q)) := Tch.set _ _ _ rfl
  have hg := (OwnG.lt h.row g rfl).1
  obtain ⟨cur, hcur⟩ := row_ob h.row (g := g) rfl
  have hne := own_offT h.row h.rb (by decide)
  refine ⟨h.be.setCell (show w.heap.size ≤ g by omega) _, ht.ob h.n3 (by omega), ht.ob h.n4 (by omega), h.hN, ht.ob h.rb (fun e => hne (by rw [e]; rfl)), row_set1 h.row hk q, OwnG.tch h.fl ht fun k hk e => ?_⟩
  exact OwnF.offR h.fl hcur (by decide) (by rw [hk, e])
/-- One more fill. -/
theorem Lp.fill {w4 : World} {o : Obj} {y : Fl} {v4 : Value} (h : Lp w wr i s p N vc f left Lc fs) (hr : OwnF w4 (w.heap.size + 2) v4 (fs ++ [y])) (hg : (wr.alloc o).grownBy w4 f.ownBlock) : Lp w w4 i s p N vc v4 left Lc (fs ++ [y]) := by
  have hal : Below wr.heap.size wr (wr.alloc o) := (Below.refl _ wr).alloc (Nat.le_refl _) _
  have ht : Tch (fun k => f.ownBlock = some k) (wr.alloc o) w4 := Tch.ofGrown hg fun k hk => hk
  have h1 := h.on hal
  have hlt := fun k hk => (OwnG.lt h1.fl k hk).1
  exact ⟨h1.be.grown hg (h1.be.size) (fun k hk => by have := hlt k hk; omega), ht.ob h1.n3 (fun e => by have := hlt _ e; omega), ht.ob h1.n4 (fun e => by have := hlt _ e; omega), h.hN, ht.ob h1.rb (OwnF.offR h1.fl h1.rb (by decide)), OwnG.tch h1.row ht fun k hk e => (by
    obtain ⟨cur, hcur⟩ := row_ob h1.row hk
    exact OwnF.offR h1.fl hcur (by decide) e), hr⟩
/-- The book that is tried holds another row. -/
theorem Lp.put {w5 : World} {C : Nat} {r : Value} {L' : List Od} (h : Lp w wr i s p N vc f left Lc fs) (hb : Below wr.heap.size wr w5) (hr : OwnR w5 C r L') (hC : w.heap.size + 2 ≤ C) : Lp w (w5.setCell ⟨N, 0, none⟩ r) i s p N r f left L' fs := by
  have h1 := h.on hb
  have ht : Tch (fun k => k = N) w5 (w5.setCell ⟨N, 0, none⟩ r) := Tch.set _ _ _ rfl
  have hN := h.hN
  refine ⟨h1.be.setCell (show w.heap.size ≤ N by omega) _, ht.ob h1.n3 (by omega), ht.ob h1.n4 (by omega), h.hN, ?_, OwnG.mono (OwnG.tch hr ht fun k hk e => own_offT hr h1.rb (by decide) (by rw [hk, e])) hC, OwnG.tch h1.fl ht fun k hk e => OwnF.offR h1.fl h1.rb (by decide) (by rw [hk, e])⟩
  have h2 := h1.rb
  unfold RB at h2 ⊢
  simp [World.setCell, Array.getElem?_modify, h2]
/-- The order goes to those that rest. -/
theorem Lp.rest {w4 : World} {o : Obj} {y : Od} {v4 : Value} (h : Lp w wr i s p N vc f left Lc fs) (hr : OwnR w4 (w.heap.size + 2) v4 (Lc ++ [y])) (hg : (wr.alloc o).grownBy w4 vc.ownBlock) : RB w4 N vc ∧ Lp w (w4.setCell ⟨N, 0, none⟩ v4) i s p N v4 f left (Lc ++ [y]) fs := by
  have hal : Below wr.heap.size wr (wr.alloc o) := (Below.refl _ wr).alloc (Nat.le_refl _) _
  have ht : Tch (fun k => vc.ownBlock = some k) (wr.alloc o) w4 := Tch.ofGrown hg fun k hk => hk
  have h1 := h.on hal
  have hlt := fun k hk => (OwnG.lt h1.row k hk).1
  have hrb : RB w4 N vc := ht.ob h1.rb (own_offT h1.row h1.rb (by decide))
  have h2 : ∀ v4' , OwnR w4 (w.heap.size + 2) v4' (Lc ++ [y]) → Lp w w4 i s p N vc f left Lc fs → True := fun _ _ _ => trivial
  have hf : OwnF w4 (w.heap.size + 2) f fs := OwnG.tch h1.fl ht fun k hk e => (by
    obtain ⟨cur, hcur⟩ := row_ob h1.row e
    exact OwnF.offR h1.fl hcur (by decide) hk)
  have ht2 : Tch (fun k => k = N) w4 (w4.setCell ⟨N, 0, none⟩ v4) := Tch.set _ _ _ rfl
  have hN := h.hN
  have n3 : w4.heap[w.heap.size]? = some (ob4 i s p left) := ht.ob h1.n3 (fun e => by have := hlt _ e; omega)
  have n4 : w4.heap[w.heap.size + 1]? = some box3 := ht.ob h1.n4 (fun e => by have := hlt _ e; omega)
  refine ⟨hrb, (h1.be.grown hg (h1.be.size) (fun k hk => by have := hlt k hk; omega)).setCell (show w.heap.size ≤ N by omega) _, ht2.ob n3 (by omega), ht2.ob n4 (by omega), h.hN, ?_, OwnG.tch hr ht2 fun k hk e => own_offT hr hrb (by decide) (by rw [hk, e]), OwnG.tch hf ht2 fun k hk e => OwnF.offR hf hrb (by decide) (by rw [hk, e])⟩
  unfold RB at hrb ⊢
  simp [World.setCell, Array.getElem?_modify, hrb]
/-- The end: the book has what was tried; the reply. -/
theorem Lp.fin {b : Nat} {v : Value} (h : Lp w wr i s p N vc f left Lc fs) (hb : RB w b v) (x y z : Value) :
    OwnF ((((wr.setCell ⟨b, 0, none⟩ vc).setCell ⟨w.heap.size + 1, 0, none⟩ x).setCell ⟨w.heap.size + 1, 1, none⟩ y).setCell ⟨w.heap.size + 1, 2, none⟩ z) w.heap.size f fs ∧
    RTo w ((((wr.setCell ⟨b, 0, none⟩ vc).setCell ⟨w.heap.size + 1, 0, none⟩ x).setCell ⟨w.heap.size + 1, 1, none⟩ y).setCell ⟨w.heap.size + 1, 2, none⟩ z) b Lc := by
  have hlt := hb.cells.1
  refine ⟨?_, RTo.fin h.be hb h.row (by omega) (by omega) x y z⟩
  have t1 : Tch (fun k => k = b ∨ k = w.heap.size + 1) wr ((((wr.setCell ⟨b, 0, none⟩ vc).setCell ⟨w.heap.size + 1, 0, none⟩ x).setCell ⟨w.heap.size + 1, 1, none⟩ y).setCell ⟨w.heap.size + 1, 2, none⟩ z) :=
    (((Tch.set _ _ _ (.inl rfl)).trans (Tch.set _ _ _ (.inr rfl))).trans (Tch.set _ _ _ (.inr rfl))).trans (Tch.set _ _ _ (.inr rfl))
  exact OwnG.mono (OwnG.tch h.fl t1 fun k hk e => by have := (OwnG.lt h.fl k hk).1; omega) (by omega)
theorem Lp.start {v2 : Value} {n : Int} {L : List Od} {w1 w2 : World} (hb : Below ((w.alloc (ob4 i s p n)).alloc box3).heap.size ((w.alloc (ob4 i s p n)).alloc box3) w1) (h2 : Below w1.heap.size w1 w2) (hr : OwnR w2 w1.heap.size v2 L) :
    Lp w (w2.alloc (.cells #[v2] 29)) i s p w2.heap.size v2 (.slice none 0 0) n L [] := by
  have hal : Below w2.heap.size w2 (w2.alloc (.cells #[v2] 29)) := (Below.refl _ w2).alloc (Nat.le_refl _) _
  have hsz : w.heap.size + 2 ≤ w1.heap.size := by have := hb.size; simp at this; omega
  have hB := (hb.trans (h2.mono hb.size)).trans (hal.mono (Nat.le_trans hb.size h2.size))
  have h0 : Below w.heap.size w ((w.alloc (ob4 i s p n)).alloc box3) := ((Below.refl _ w).alloc (Nat.le_refl _) _).alloc (by simp) _
  have n3 : ((w.alloc (ob4 i s p n)).alloc box3).heap[w.heap.size]? = some (ob4 i s p n) := obAlloc (heap_alloc_new w _)
  have n4 : ((w.alloc (ob4 i s p n)).alloc box3).heap[w.heap.size + 1]? = some box3 := by
    rw [show w.heap.size + 1 = (w.alloc (ob4 i s p n)).heap.size by simp]; exact heap_alloc_new _ _
  exact ⟨h0.trans (hB.mono (by simp; omega)), obOn n3 hB (by simp; omega), obOn n4 hB (by simp), by have := h2.size; omega, heap_alloc_new w2 _, OwnG.mono (OwnG.on hr hal) hsz, World.ownsRow_nil _ _ _ _⟩
end Go.Proofs.Ytdgllpfccdbdnaa
