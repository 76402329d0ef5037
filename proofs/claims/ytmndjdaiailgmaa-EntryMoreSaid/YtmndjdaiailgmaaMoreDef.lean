/- The law EntryMore: what a round hands on. -/
import Derived.Test.YtmndjdaiailgmaaAlive6
import Derived.Test.YtmndjdaiailgmaaHeld6
import Derived.Test.YtmndjdaiailgmaaEnt7
import Derived.Test.YtmndjdaiailgmaaStepA
import Derived.Test.YtmndjdaiailgmaaStepB
import Derived.Test.YtmndjdaiailgmaaStepC
namespace Go.Proofs.Ytmndjdaiailgmaa
set_option linter.unusedVariables false
open Go.RowKit
open Go.Lib (hid)

theorem newAt {n : Nat} {x : Obj} {W : World} (h : n = W.heap.size) : (W.alloc x).heap[n]? = some x := by subst h; exact heap_alloc_new W x
theorem roomAlloc {q : Nat} {T : TypeId} {x : Obj} {W : World} (h : Room W q T) : Room (W.alloc x) q T := by
  obtain ⟨C, h1, h2⟩ := h
  exact ⟨C, obAlloc h1, h2⟩
theorem sameB_refl (l : List C7) : sameB l l = true := by unfold sameB; simp
theorem same_f {e e1 : Ev} {f f1 a v : List C7} (h : e1.ft = e.ft ∧ f1 = f) : sameE { e with ft := e1.ft, fp := e1.fp } f1 a v e f a v = true := by
  unfold sameE
  rw [h.1, h.2]
  simp [sameB_refl, C7.same_iff.2]
theorem same_v {e e1 : Ev} {f a v v1 : List C7} (h : e1.vt = e.vt ∧ v1 = v) : sameE { e with vt := e1.vt, vp := e1.vp } f a v1 e f a v = true := by
  unfold sameE
  rw [h.1, h.2]
  simp [sameB_refl, C7.same_iff.2]
/-- What only has more. -/
structure NextS (e : Ev) (f a v : List C7) (e1 : Ev) (f1 a1 v1 : List C7) : Prop where
  ok : rightE e1 f1 a1 v1 = true
  pr : ¬ e1.pr < e.pr
  lo : e.lo ≠ 0 → ¬ e.lo < e1.lo ∧ e1.lo ≠ 0
  hi : ¬ e1.hi < e.hi
  fr : e.fr = true → e1.fr = true
  c : e1.c = e.c
  fv : e.ft = 0 ∨ (e1.ft = e.ft ∧ f1 = f)
  dv : e.dn = false ∨ (e1.dn = true ∧ e1.vt = e.vt ∧ v1 = v)
/-- An act: its kind, ballot, timestamp, set. -/
structure Ac where
  k : Int
  b : Int
  t : Int
  p : Sv
  l : List C7
def ActsAt (w : World) (bl o : Nat) (acs : List Ac) : Prop := ∀ j A, acs[j]? = some A → w.cell? ⟨bl, o + j * 4, none⟩ = some (.int .u8 A.k) ∧ w.cell? ⟨bl, o + j * 4 + 1, none⟩ = some (.int .i64 A.b) ∧ w.cell? ⟨bl, o + j * 4 + 2, none⟩ = some (.int .i64 A.t) ∧ w.cell? ⟨bl, o + j * 4 + 3, none⟩ = some A.p.v ∧ Sl w A.p.v A.l ∧ 0 ≤ A.k ∧ A.k < 256
theorem ActsAt.on {w w' : World} {bl o : Nat} {acs : List Ac} (h : ActsAt w bl o acs) (hb : Below w.heap.size w w') (hl : 0 < acs.length → bl < w.heap.size) : ActsAt w' bl o acs := fun j A hj => by
  have hlt : bl < w.heap.size := hl (by have := (List.getElem?_eq_some_iff.1 hj).1; omega)
  obtain ⟨h0, h1, h2, h3, h4, h5, h6⟩ := h j A hj
  exact ⟨(hb.cell (p := ⟨bl, _, none⟩) hlt).trans h0, (hb.cell (p := ⟨bl, _, none⟩) hlt).trans h1, (hb.cell (p := ⟨bl, _, none⟩) hlt).trans h2, (hb.cell (p := ⟨bl, _, none⟩) hlt).trans h3, h4.on hb, h5, h6⟩
theorem Sl.len {w : World} {p : Sv} {l : List C7} (h : Sl w p.v l) : p.n = l.length := by
  obtain ⟨_, _, cap, a, hv', _⟩ := id h
  injection hv' with h1 h2 h3
theorem actOn {w w' : World} {bl o j : Nat} {A : Ac} {acs : List Ac} (h : ActsAt w bl o acs) (hb : Below w.heap.size w w') (hl : bl < w.heap.size) (hj : acs[j]? = some A) : w'.cell? ⟨bl, o + j * 4, none⟩ = some (.int .u8 A.k) ∧ w'.cell? ⟨bl, o + j * 4 + 1, none⟩ = some (.int .i64 A.b) ∧ w'.cell? ⟨bl, o + j * 4 + 2, none⟩ = some (.int .i64 A.t) ∧ w'.cell? ⟨bl, o + j * 4 + 3, none⟩ = some (.slice A.p.a A.p.n A.p.c) ∧ Sl w' A.p.v A.l ∧ 0 ≤ A.k ∧ A.k < 256 := (h.on hb (fun _ => hl)) j A hj
/-- What holds at the beginning of a round. -/
structure MoreS (w : World) (acs : List Ac) (W : World) (e : Ev) (f a v : List C7) : Prop where
  ob : Ob W w.heap.size 30 e
  bel : Below w.heap.size w W
  sf : Sl w e.fp.v f
  sa : Sl w e.xp.v a
  sv : Sl w e.vp.v v
  lf : f.length ≤ 80
  la : a.length ≤ 80
  lv : v.length ≤ 80
  ok : rightE e f a v = true

end Go.Proofs.Ytmndjdaiailgmaa
