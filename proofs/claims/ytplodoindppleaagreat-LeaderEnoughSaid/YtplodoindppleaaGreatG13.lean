import Derived.Test.YtplodoindppleaaGreatG12
import Derived.Laws.CopyOwn
import Derived.Laws.IdiomCopy
import Derived.Laws.NewBlocks
import Derived.Test.YtplodoindppleaaGreatG11
import Derived.Test.YtplodoindppleaaGreatG04
import Derived.Maps.OwnSet
namespace Go.Proofs.YtplodoindppleaaGreat
set_option linter.unusedVariables false
open Go.RowKit
open Go.Lib (hid)
open Go.Deep (blk_setCell_other nblk_setCell)
theorem splice_len {α : Type} {L : List α} {off : Nat} {cs : List α} (h : off + cs.length ≤ L.length) : (splice L off cs).length = L.length := length_splice L off cs h
theorem setCells_row {w : World} {g : Nat} {cur : Array Value} {t : TypeId} (hg : w.heap[g]? = some (.cells cur t (0, 0))) (vs : List Value) (o : Nat) (h : o + vs.length ≤ cur.size) (h1 : ∀ v ∈ vs, v.oneCell' = true) :
 w.setCells g o vs = w.setRow g (splice cur.toList o vs).toArray := by
 have a := run_storeCells_at Tryz.prog g o t vs 0 cur w hg (by simpa using h) h1
 have b := run_storeCells_cells (P := Tryz.prog) g o vs 0 w (fun j hj => by rw [cellAt' hg]; simp; omega) (fun j hj => by simp [World.frozen?, hg]) h1
 rw [a] at b
 injection b with _ b
 simpa [splice] using b.symm
theorem splice_in {α : Type} {A X C vs : List α} {off : Nat} (h : off + vs.length ≤ X.length) : splice (A ++ (X ++ C)) (A.length + off) vs = A ++ (splice X off vs ++ C) := by
 unfold splice
 have h1 : (A ++ (X ++ C)).take (A.length + off) = A ++ X.take off := by
  rw [List.take_append, List.take_of_length_le (by omega), show A.length + off - A.length = off by omega, List.take_append_of_le_length (by omega)]
 have h2 : (A ++ (X ++ C)).drop (A.length + off + vs.length) = X.drop (off + vs.length) ++ C := by
  rw [List.drop_append, List.drop_of_length_le (by omega), List.nil_append, show A.length + off + vs.length - A.length = off + vs.length by omega, List.drop_append_of_le_length (by omega)]
 rw [h1, h2]
 simp [List.append_assoc]
theorem flat_set {ms : List Mg} {i : Nat} {x x' : Mg} (hx : ms[i]? = some x) {off : Nat} {vs : List Value} (he : splice x.list off vs = x'.list) (ho : off + vs.length ≤ 20) (rest : List Value) :
 splice (flatG Mg.list ms ++ rest) (i * 20 + off) vs = flatG Mg.list (ms.set i x') ++ rest := by
 have hi := (List.getElem?_eq_some_iff.1 hx).1
 have hxi := (List.getElem?_eq_some_iff.1 hx).2
 have e1 : ms = ms.take i ++ x :: ms.drop (i + 1) := by
  conv => lhs; rw [← List.take_append_drop i ms, List.drop_eq_getElem_cons hi, hxi]
 have hl : (flatG Mg.list (ms.take i)).length = i * 20 := by rw [flatG_len kM, List.length_take, Nat.min_eq_left (Nat.le_of_lt hi)]
 have e2 : ms.set i x' = ms.take i ++ x' :: ms.drop (i + 1) := by
  rw [List.set_eq_take_append_cons_drop, if_pos hi]
 conv => lhs; rw [e1]
 rw [e2, flatG_append, flatG_cons, flatG_append, flatG_cons, List.append_assoc, List.append_assoc, ← hl, splice_in (by rw [kM]; exact ho), he]
 simp [List.append_assoc]
theorem own_setM {w : World} {B g cap n : Nat} {ms : List Mg} {i off : Nat} {x x' : Mg} {vs : List Value} (h : OwnM w B (.slice (some ⟨g, 0, none⟩) n cap) ms) (hx : ms[i]? = some x) (he : splice x.list off vs = x'.list) (ho : off + vs.length ≤ 20) (h1 : ∀ v ∈ vs, v.oneCell' = true) :
 OwnM (w.setCells g (i * 20 + off) vs) B (.slice (some ⟨g, 0, none⟩) n cap) (ms.set i x') := by
 have hi := (List.getElem?_eq_some_iff.1 hx).1
 rcases h.2 with ⟨e, _⟩ | ⟨g', cap', cur, e, hb, hg, hn, hm, hs, ht⟩
 · cases e
 · injection e with e1 e2 e3
   injection e1 with e1
   injection e1 with e1
   subst e1 e3
   have hfl : (flatG Mg.list ms).length = ms.length * 20 := flatG_len kM ms
   have hnl : ms.length * 20 ≤ cur.size := by
    have : (cur.toList.take (ms.length * 20)).length = ms.length * 20 := by rw [ht, hfl]
    rw [List.length_take, Array.length_toList] at this
    omega
   have hsz : i * 20 + off + vs.length ≤ cur.size := by
    have : (i + 1) * 20 ≤ ms.length * 20 := Nat.mul_le_mul_right 20 hi
    omega
   have hr := setCells_row hg vs (i * 20 + off) hsz h1
   rw [hr]
   refine ⟨?_, .inr ⟨g, cap, (splice cur.toList (i * 20 + off) vs).toArray, ?_, hb, setRow_heap _ _ _ _ _ _ hg, ?_, hm, ?_, ?_⟩⟩
   · rw [flatG_len kM]
   · rw [e2, List.length_set]
   · rw [List.length_set]; exact hn
   · rw [List.size_toArray, splice_len (by rw [Array.length_toList]; omega), Array.length_toList]; exact hs
   · have hd : cur.toList = flatG Mg.list ms ++ cur.toList.drop (ms.length * 20) := by
      conv => lhs; rw [← List.take_append_drop (ms.length * 20) cur.toList, ht]
     show ((splice cur.toList (i * 20 + off) vs).toArray.toList).take _ = _
     rw [hd, flat_set hx he ho, List.length_set]
     have hl2 : (flatG Mg.list (ms.set i x')).length = ms.length * 20 := by rw [flatG_len kM, List.length_set]
     rw [← hl2]
     simp
theorem own_at {w : World} {B g cap n : Nat} {ms : List Mg} {i : Nat} {x : Mg} (h : OwnM w B (.slice (some ⟨g, 0, none⟩) n cap) ms) (hx : ms[i]? = some x) : w.rangeAt g (i * 20) x.list ∧ (∀ off, w.frozen? ⟨g, i * 20 + off, none⟩ = false) ∧ (∀ off k, off + k ≤ 20 → w.there g (i * 20 + off) k) ∧ B ≤ g ∧ g < w.heap.size := by
 have hi := (List.getElem?_eq_some_iff.1 hx).1
 have hr : SlM w (.slice (some ⟨g, 0, none⟩) n cap) ms := OwnG.slG kM h
 have hlt := h.lt g rfl
 rcases h.2 with ⟨e, _⟩ | ⟨g', cap', cur, e, hb, hg, hn, hm, hs, ht⟩
 · cases e
 · injection e with e1 e2 e3
   injection e1 with e1
   injection e1 with e1
   subst e1 e3
   have hfl : (flatG Mg.list ms).length = ms.length * 20 := flatG_len kM ms
   have hnl : ms.length * 20 ≤ cur.size := by
    have : (cur.toList.take (ms.length * 20)).length = ms.length * 20 := by rw [ht, hfl]
    rw [List.length_take, Array.length_toList] at this
    omega
   obtain ⟨b, o, c, a, e, ha, hc, hb2⟩ := hr
   injection e with e4 e5 e6
   have ha' := ha (by omega)
   rw [← e4] at ha'
   injection ha' with ha'
   injection ha' with h1 h2
   subst h1 h2
   have := hc i x hx
   rw [Nat.zero_add] at this
   have h20 : (i + 1) * 20 ≤ ms.length * 20 := Nat.mul_le_mul_right 20 hi
   exact ⟨this, fun off => frozenAt hg _, fun off k hk => thereAt hg (by omega), hlt.1, hlt.2⟩
theorem splice_full (x m : Mg) : splice x.list 0 m.list = m.list := by unfold splice; simp [Mg.len]
theorem storeRM {ops : Array Oper} {rest : List Oper} {op : Oper} {c : Act} {w : World} {Q : Exit → Act → World → Prop} {x y : Operand} {B g cap n i : Nat} {ms : List Mg} {m : Mg} (m' : Mg) (hgd : op.guard = none) (ho : op.op = .store 48 x y)
 (hx : c.eval x = .pointer (some ⟨g, i * 20, none⟩)) (hy : c.eval y = .agg m'.arr) (hO : OwnM w B (.slice (some ⟨g, 0, none⟩) n cap) ms) (hm : ms[i]? = some m)
 (h : ∀ W, OwnM W B (.slice (some ⟨g, 0, none⟩) n cap) (ms.set i m') → Upd g w W → wpList Tryz.prog ops Q rest (c.put op.dst undef) W) : wpList Tryz.prog ops Q (op :: rest) c w :=
 wpList_store_mid hgd 48 x y ho g (i * 20) m'.arr hx hy (by have := (own_at hO hm).2.2.1 0 20 (by decide); rwa [Nat.add_zero] at this) (infoM' m') (Mg.one m') (h _ (by have := own_setM hO hm (splice_full m m') (by rw [Mg.len]; decide) (Mg.one' m'); rw [Nat.add_zero] at this; rw [Mg.toList]; exact this) (setsUpd' w g (i * 20) _))
theorem setsMV {w : World} {q : Nat} {m : Mg} (h : OM w q m) (t : Int) (p : Sv) : OM (w.setCells q 11 (varr t p).toList) q { m with vt := t, vp := p } := by
 obtain ⟨C', h1, h2, h3, h5, h4⟩ := setsMid (varr t p).toList 11 m.arr w h
 have : C' = ({ m with vt := t, vp := p } : Mg).arr := by
  apply Array.ext_getElem?
  intro j
  by_cases hj : j < 11
  · rw [h3 j hj]
    rcases (by omega : j = 0 ∨ j = 1 ∨ j = 2 ∨ j = 3 ∨ j = 4 ∨ j = 5 ∨ j = 6 ∨ j = 7 ∨ j = 8 ∨ j = 9 ∨ j = 10) with rfl | rfl | rfl | rfl | rfl | rfl | rfl | rfl | rfl | rfl | rfl <;> rfl
  · by_cases hj2 : j < 13
    · have := h4 (j - 11) (by rw [varr_list]; show j - 11 < 2; omega) (by rw [Mg.size]; omega)
      rw [show 11 + (j - 11) = j by omega] at this
      rw [this]
      rcases (by omega : j = 11 ∨ j = 12) with rfl | rfl <;> rfl
    · rw [h5 j (by rw [varr_list]; show 11 + 2 ≤ j; omega)]
      by_cases hj3 : j < 20
      · rcases (by omega : j = 13 ∨ j = 14 ∨ j = 15 ∨ j = 16 ∨ j = 17 ∨ j = 18 ∨ j = 19) with rfl | rfl | rfl | rfl | rfl | rfl | rfl <;> rfl
      · rw [Array.getElem?_eq_none (by rw [Mg.size]; omega), Array.getElem?_eq_none (by rw [Mg.size]; omega)]
 subst this
 exact h1
theorem storeMV {ops : Array Oper} {rest : List Oper} {op : Oper} {c : Act} {w : World} {Q : Exit → Act → World → Prop} {x y : Operand} {b : Nat} (m : Mg) (t : Int) (p : Sv) (hgd : op.guard = none) (ho : op.op = .store 34 x y)
 (hx : c.eval x = .pointer (some ⟨b, 11, none⟩)) (hy : c.eval y = .agg (varr t p)) (hC : OM w b m) (h : ∀ W, OM W b { m with vt := t, vp := p } → Upd b w W → wpList Tryz.prog ops Q rest (c.put op.dst undef) W) : wpList Tryz.prog ops Q (op :: rest) c w :=
 wpList_store_mid hgd 34 x y ho b 11 (varr t p) hx hy (thereAt hC (by rw [Mg.size]; show 11 + 2 ≤ 20; decide)) (infoVl' t p) (varr_one t p) (h _ (setsMV hC t p) (setsUpd' w b 11 _))
theorem setsMA {w : World} {q : Nat} {m : Mg} (h : OM w q m) (t : Int) (p : Sv) : OM (w.setCells q 16 (varr t p).toList) q { m with xt := t, xp := p } := by
 obtain ⟨C', h1, h2, h3, h5, h4⟩ := setsMid (varr t p).toList 16 m.arr w h
 have : C' = ({ m with xt := t, xp := p } : Mg).arr := by
  apply Array.ext_getElem?
  intro j
  by_cases hj : j < 16
  · rw [h3 j hj]
    rcases (by omega : j = 0 ∨ j = 1 ∨ j = 2 ∨ j = 3 ∨ j = 4 ∨ j = 5 ∨ j = 6 ∨ j = 7 ∨ j = 8 ∨ j = 9 ∨ j = 10 ∨ j = 11 ∨ j = 12 ∨ j = 13 ∨ j = 14 ∨ j = 15) with rfl | rfl | rfl | rfl | rfl | rfl | rfl | rfl | rfl | rfl | rfl | rfl | rfl | rfl | rfl | rfl <;> rfl
  · by_cases hj2 : j < 18
    · have := h4 (j - 16) (by rw [varr_list]; show j - 16 < 2; omega) (by rw [Mg.size]; omega)
      rw [show 16 + (j - 16) = j by omega] at this
      rw [this]
      rcases (by omega : j = 16 ∨ j = 17) with rfl | rfl <;> rfl
    · rw [h5 j (by rw [varr_list]; show 16 + 2 ≤ j; omega)]
      by_cases hj3 : j < 20
      · rcases (by omega : j = 18 ∨ j = 19) with rfl | rfl <;> rfl
      · rw [Array.getElem?_eq_none (by rw [Mg.size]; omega), Array.getElem?_eq_none (by rw [Mg.size]; omega)]
 subst this
 exact h1
theorem setsMF {w : World} {q : Nat} {m : Mg} (h : OM w q m) (t : Int) (p : Sv) : OM (w.setCells q 18 (varr t p).toList) q { m with ft := t, fp := p } := by
 obtain ⟨C', h1, h2, h3, h5, h4⟩ := setsMid (varr t p).toList 18 m.arr w h
 have : C' = ({ m with ft := t, fp := p } : Mg).arr := by
  apply Array.ext_getElem?
  intro j
  by_cases hj : j < 18
  · rw [h3 j hj]
    rcases (by omega : j = 0 ∨ j = 1 ∨ j = 2 ∨ j = 3 ∨ j = 4 ∨ j = 5 ∨ j = 6 ∨ j = 7 ∨ j = 8 ∨ j = 9 ∨ j = 10 ∨ j = 11 ∨ j = 12 ∨ j = 13 ∨ j = 14 ∨ j = 15 ∨ j = 16 ∨ j = 17) with rfl | rfl | rfl | rfl | rfl | rfl | rfl | rfl | rfl | rfl | rfl | rfl | rfl | rfl | rfl | rfl | rfl | rfl <;> rfl
  · by_cases hj2 : j < 20
    · have := h4 (j - 18) (by rw [varr_list]; show j - 18 < 2; omega) (by rw [Mg.size]; omega)
      rw [show 18 + (j - 18) = j by omega] at this
      rw [this]
      rcases (by omega : j = 18 ∨ j = 19) with rfl | rfl <;> rfl
    · rw [h5 j (by rw [varr_list]; show 18 + 2 ≤ j; omega)]
      by_cases hj3 : j < 20
      · omega
      · rw [Array.getElem?_eq_none (by rw [Mg.size]; omega), Array.getElem?_eq_none (by rw [Mg.size]; omega)]
 subst this
 exact h1
end Go.Proofs.YtplodoindppleaaGreat
namespace Go.Proofs.YtplodoindppleaaGreat
set_option linter.unusedVariables false
open Go.RowKit
open Go.Lib (hid)
open Go.Deep (blk_setCell_other nblk_setCell)
theorem own_tch {S : Nat → Prop} {w w' : World} {B n size : Nat} {e : TypeId} {v : Value} {xs : List Value} (h : w.ownsRow B e size v n xs) (ht : Tch S w w') (hv : ∀ k, v.ownBlock = some k → ¬ S k) : w'.ownsRow B e size v n xs := by
 refine ⟨h.1, ?_⟩
 rcases h.2 with h2 | ⟨g, cap, cur, rfl, h1, hg, r⟩
 · exact .inl h2
 · exact .inr ⟨g, cap, cur, rfl, h1, ht.ob hg (hv g rfl), r⟩
theorem OV.setP {w : World} {q : Nat} {t : Int} {p : Sv} (h : OV w q t p) (p' : Sv) : OV (w.setCell ⟨q, 1, none⟩ (.slice p'.a p'.n p'.c)) q t p' := by
 have := setAt (j := 1) (x := .slice p'.a p'.n p'.c) h
 have e : (varr t p).setIfInBounds 1 (.slice p'.a p'.n p'.c) = varr t p' := rfl
 rw [e] at this; exact this
theorem OV.cells {w : World} {q : Nat} {t : Int} {p : Sv} (h : OV w q t p) : w.cell? ⟨q, 0, none⟩ = some (.int .i64 t) ∧ w.cell? ⟨q, 1, none⟩ = some (.slice p.a p.n p.c) ∧ w.frozen? ⟨q, 0, none⟩ = false ∧ w.frozen? ⟨q, 1, none⟩ = false :=
 ⟨(cellAt' h 0).trans rfl, (cellAt' h 1).trans rfl, frozenAt h 0, frozenAt h 1⟩
theorem OV.below {w w' : World} {q B : Nat} {t : Int} {p : Sv} (h : OV w q t p) (hb : Below B w w') (hq : q < B) : OV w' q t p := (hb.block q hq).trans h
theorem OV.lt {w : World} {q : Nat} {t : Int} {p : Sv} (h : OV w q t p) : q < w.heap.size := (Array.getElem?_eq_some_iff.1 h).1
theorem setV_below {w0 w : World} {q o B : Nat} {v : Value} (h : Below B w0 w) (hB : B ≤ w.heap.size) (hq : B ≤ q) : Below B w0 (w.setCell ⟨q, o, none⟩ v) := h.grown (grownSet w ⟨q, o, none⟩ v) hB fun k hk => by injection hk with hk; subst hk; exact hq
theorem setV_tch (w : World) (q o : Nat) (v : Value) : Tch (fun k => k = q) w (w.setCell ⟨q, o, none⟩ v) := Tch.ofGrown (grownSet w ⟨q, o, none⟩ v) fun k e => (Option.some.inj e).symm
theorem RoomV.tch {w w' : World} {q r : Nat} (h : RoomV w q) (ht : Tch (fun k => k = r) w w') (hr : q ≠ r) : RoomV w' q := by
 have hl := h.lt
 obtain ⟨C, h1, h2⟩ := h
 exact ⟨C, (ht.block q hl hr).trans h1, h2⟩
end Go.Proofs.YtplodoindppleaaGreat
namespace Go.Proofs.YtplodoindppleaaGreat
set_option linter.unusedVariables false
open Go.RowKit
open Go.Lib (hid)
def SetC (B : Nat) (w : World) (v : Value) (cs : List C7) : Prop := Sl w v cs ∧ ∀ ad n c, v = .slice (some ad) n c → 0 < cs.length → ad.block < B ∨ ∃ cur fz, w.heap[ad.block]? = some (.cells cur 42 fz)
theorem SetD.setC {B : Nat} {w : World} {v : Value} {cs : List C7} (h : SetD w v cs) : SetC B w v cs := ⟨h.1, fun ad n c e h0 => .inr (h.2 ad n c e h0)⟩
theorem SetC.tch {B : Nat} {S : Nat → Prop} {w w' : World} {v : Value} {cs : List C7} (h : SetC B w v cs) (ht : Tch S w w') (hS : ∀ k, S k → B ≤ k ∧ ∀ cur fz, w.heap[k]? ≠ some (.cells cur 42 fz)) : SetC B w' v cs := by
 by_cases h0 : cs = []
 · subst h0
   exact ⟨h.1.void, fun ad n c e h0 => absurd h0 (by simp)⟩
 · have hpos : 0 < cs.length := List.length_pos_iff.2 h0
   obtain ⟨b, o, cap, a, rfl, hn, ha, hc, hb⟩ := h.1
   obtain rfl := ha hpos
   have h2 := h.2 _ _ _ rfl hpos
   have hns : ¬ S b := fun hs => by
    obtain ⟨h3, h4⟩ := hS b hs
    rcases h2 with h2 | ⟨cur, fz, h2⟩
    · exact absurd h2 (by show ¬ b < B; omega)
    · exact h4 cur fz h2
   refine ⟨⟨b, o, cap, _, rfl, hn, ha, fun j x hx i u hu => ?_, fun h => Nat.lt_of_lt_of_le (hb h) ht.size⟩, fun ad n c e h0' => ?_⟩
   · have := hc j x hx i u hu
     rw [World.cell?] at this ⊢
     rw [ht.block b (hb hpos) hns]; exact this
   · injection e with e1 e2 e3
     cases e1
     rcases h2 with h2 | ⟨cur, fz, h2⟩
     · exact .inl h2
     · exact .inr ⟨cur, fz, ht.ob h2 hns⟩
theorem SetC.on {B : Nat} {w w' : World} {v : Value} {cs : List C7} (h : SetC B w v cs) (hb : Below w.heap.size w w') : SetC B w' v cs := h.tch (Tch.ofBelow (S := fun _ => False) hb) fun _ h => h.elim
theorem SetC.mono {B B' : Nat} {w : World} {v : Value} {cs : List C7} (h : SetC B w v cs) (hB : B ≤ B') : SetC B' w v cs := ⟨h.1, fun ad n c e h0 => (h.2 ad n c e h0).imp (fun h => Nat.lt_of_lt_of_le h hB) id⟩
def Ms.atC (B : Nat) (w : World) (x : Ms) : Prop := SetC B w x.m.vp.v x.v ∧ SetC B w x.m.xp.v x.a ∧ SetC B w x.m.fp.v x.f
theorem Ms.atC.at {B : Nat} {w : World} {x : Ms} (h : x.atC B w) : x.at w := ⟨h.1.1, h.2.1.1, h.2.2.1⟩
theorem Ms.atC.tch {B : Nat} {S : Nat → Prop} {w w' : World} {x : Ms} (h : x.atC B w) (ht : Tch S w w') (hS : ∀ k, S k → B ≤ k ∧ ∀ cur fz, w.heap[k]? ≠ some (.cells cur 42 fz)) : x.atC B w' := ⟨h.1.tch ht hS, h.2.1.tch ht hS, h.2.2.tch ht hS⟩
theorem Ms.atC.on {B : Nat} {w w' : World} {x : Ms} (h : x.atC B w) (hb : Below w.heap.size w w') : x.atC B w' := ⟨h.1.on hb, h.2.1.on hb, h.2.2.on hb⟩
structure Ax where
 c : C7
 bal : Int
 ph : Int
 vt : Int
 vp : Sv
 vl : List C7
 ex : Bool
 rv : Sv
 rs : List Ms
def Ax.att (x : Ax) : Att := ⟨x.c, x.bal, x.ph, x.vt, x.vl, x.ex, x.rs.map Ms.an⟩
def Ax.list (x : Ax) : List Value := [.int .i64 x.c.i, .int .i64 x.c.k, .int .i64 x.c.s, .int .i64 x.c.t, .int .i64 x.c.d, .int .i64 x.c.p, .int .i64 x.c.q, .int .i64 x.bal, .int .i64 x.ph, .int .i64 x.vt, x.vp.v, .bool x.ex, x.rv.v]
def Ax.arr (x : Ax) : Array Value := x.list.toArray
theorem Ax.size (x : Ax) : x.arr.size = 13 := rfl
abbrev OA (w : World) (p : Nat) (x : Ax) : Prop := w.heap[p]? = some (.cells x.arr 71 (0, 0))
theorem OA.lt {w : World} {p : Nat} {x : Ax} (h : OA w p x) : p < w.heap.size := (Array.getElem?_eq_some_iff.1 h).1
theorem OA.cell {w : World} {p : Nat} {x : Ax} (h : OA w p x) {j : Nat} {v : Value} (hv : x.list[j]? = some v) : w.cell? ⟨p, j, none⟩ = some v := by
 rw [cellAt' h, ← Array.getElem?_toList]; unfold Ax.arr; simpa using hv
theorem OA.free {w : World} {p : Nat} {x : Ax} (h : OA w p x) (j : Nat) : w.frozen? ⟨p, j, none⟩ = false := frozenAt h j
theorem OA.set {w : World} {p j : Nat} {x x' : Ax} {v : Value} (h : OA w p x) (he : x.arr.setIfInBounds j v = x'.arr) : OA (w.setCell ⟨p, j, none⟩ v) p x' := by
 have := setAt (j := j) (x := v) h
 rw [he] at this; exact this
theorem OA.no {w : World} {p : Nat} {x : Ax} (h : OA w p x) : ∀ cur fz, w.heap[p]? ≠ some (.cells cur 42 fz) := fun cur fz e => by
 rw [h] at e; injection e with e; injection e with _ e; exact absurd e (by decide)
theorem OA.valR {w : World} {p : Nat} {x : Ax} (h : OA w p x) : w.rangeAt p 9 (vcs x.vt x.vp) := fun i u hu => by
 rcases i with _ | _ | i
 · obtain rfl := Option.some.inj hu; exact h.cell (x := x) (j := 9) rfl
 · obtain rfl := Option.some.inj hu; exact h.cell (x := x) (j := 10) rfl
 · simp [vcs] at hu
theorem OA.cmdR {w : World} {p : Nat} {x : Ax} (h : OA w p x) : w.rangeAt p 0 x.c.cells := fun i u hu => by
 rw [Nat.zero_add]
 refine h.cell (x := x) (j := i) ?_
 rcases i with _ | _ | _ | _ | _ | _ | _ | i
 all_goals first | exact hu | (simp [C7.cells] at hu)
theorem setsVal {w : World} {p : Nat} {x : Ax} (h : OA w p x) (t : Int) (r : Sv) (l : List C7) : OA (w.setCells p 9 (varr t r).toList) p { x with vt := t, vp := r, vl := l } := by
 obtain ⟨C', h1, h2, h3, h5, h4⟩ := setsMid (varr t r).toList 9 x.arr w h
 have : C' = ({ x with vt := t, vp := r, vl := l } : Ax).arr := by
  apply Array.ext_getElem?
  intro j
  by_cases hj : j < 9
  · rw [h3 j hj]
    rcases (by omega : j = 0 ∨ j = 1 ∨ j = 2 ∨ j = 3 ∨ j = 4 ∨ j = 5 ∨ j = 6 ∨ j = 7 ∨ j = 8) with rfl | rfl | rfl | rfl | rfl | rfl | rfl | rfl | rfl <;> rfl
  · by_cases hj2 : j < 11
    · have := h4 (j - 9) (by show _ < 2; omega) (by rw [Ax.size]; omega)
      rw [show 9 + (j - 9) = j by omega] at this
      rw [this]
      rcases (by omega : j = 9 ∨ j = 10) with rfl | rfl <;> rfl
    · rw [h5 j (by show 9 + 2 ≤ j; omega)]
      by_cases hj3 : j < 13
      · rcases (by omega : j = 11 ∨ j = 12) with rfl | rfl <;> rfl
      · rw [Array.getElem?_eq_none (by rw [Ax.size]; omega), Array.getElem?_eq_none (by rw [Ax.size]; omega)]
 subst this
 exact h1
structure Ap (w : World) (B p : Nat) (x : Ax) : Prop where
 ob : OA w p x
 ow : OwnM w B x.rv.v (mgs x.rs)
 vs : SetC B w x.vp.v x.vl
 rs : ∀ m ∈ x.rs, m.atC B w
 lb : B ≤ p
abbrev TA (p : Nat) (x : Ax) : Nat → Prop := fun k => k = p ∨ x.rv.v.ownBlock = some k
theorem own_no {w : World} {B : Nat} {v : Value} {ms : List Mg} (h : OwnM w B v ms) {k : Nat} (hk : v.ownBlock = some k) : B ≤ k ∧ ∃ cur, w.heap[k]? = some (.cells cur 48 (0, 0)) := by
 rcases h.2 with ⟨rfl, h1⟩ | ⟨g, cap, cur, rfl, hb, hg, _⟩
 · cases hk
 · obtain rfl : g = k := Option.some.inj hk
   exact ⟨hb, cur, hg⟩
theorem Ap.no {w : World} {B p : Nat} {x : Ax} (h : Ap w B p x) : ∀ k, TA p x k → B ≤ k ∧ ∀ cur fz, w.heap[k]? ≠ some (.cells cur 42 fz) := by
 rintro k (rfl | hk)
 · exact ⟨h.lb, h.ob.no⟩
 · obtain ⟨h1, cur, h2⟩ := own_no h.ow hk
   refine ⟨h1, fun cur' fz e => ?_⟩
   rw [h2] at e; injection e with e; injection e with _ e; exact absurd e (by decide)
theorem Ap.pr {w : World} {B p : Nat} {x : Ax} (h : Ap w B p x) : x.rv.v.ownBlock ≠ some p := fun e => by
 obtain ⟨_, cur, h2⟩ := own_no h.ow e
 have : w.heap[p]? = some (.cells x.arr 71 (0, 0)) := h.ob
 rw [h2] at this; injection this with this; injection this with _ this; exact absurd this (by decide)
theorem Ap.tch {S : Nat → Prop} {w w' : World} {B p : Nat} {x : Ax} (h : Ap w B p x) (ht : Tch S w w') (hS : ∀ k, S k → B ≤ k ∧ ∀ cur fz, w.heap[k]? ≠ some (.cells cur 42 fz)) (hn : ∀ k, TA p x k → ¬ S k) : Ap w' B p x :=
 ⟨ht.ob h.ob (hn p (.inl rfl)), own_tch h.ow ht fun k hk => hn k (.inr hk), h.vs.tch ht hS, fun m hm => (h.rs m hm).tch ht hS, h.lb⟩
theorem Ap.on {w w' : World} {B p : Nat} {x : Ax} (h : Ap w B p x) (hb : Below w.heap.size w w') : Ap w' B p x := h.tch (Tch.ofBelow (S := fun _ => False) hb) (fun _ h => h.elim) fun _ _ h => h
theorem Ap.cells {w : World} {B p : Nat} {x : Ax} (h : Ap w B p x) : w.cell? ⟨p, 7, none⟩ = some (.int .i64 x.bal) ∧ w.cell? ⟨p, 8, none⟩ = some (.int .i64 x.ph) ∧ w.cell? ⟨p, 9, none⟩ = some (.int .i64 x.vt) ∧ w.cell? ⟨p, 10, none⟩ = some (.slice x.vp.a x.vp.n x.vp.c) ∧ w.cell? ⟨p, 11, none⟩ = some (.bool x.ex) ∧ w.cell? ⟨p, 12, none⟩ = some (.slice x.rv.a x.rv.n x.rv.c) ∧ w.cell? ⟨p, 0, none⟩ = some (.int .i64 x.c.i) :=
 ⟨h.ob.cell rfl, h.ob.cell rfl, h.ob.cell rfl, h.ob.cell rfl, h.ob.cell rfl, h.ob.cell rfl, h.ob.cell rfl⟩
def ptrO (o : Option Nat) : Value := match o with | none => .pointer none | some p => ptr p
open Classical in
noncomputable def RP (v : Value) : Option (DataW Value × List MemPlace) := if ∃ o : Option Nat, v = ptrO o then some (.held v, []) else none
theorem RP_mk (o : Option Nat) : RP (ptrO o) = some (.held (ptrO o), []) := by unfold RP; rw [if_pos ⟨o, rfl⟩]
theorem RP_inv {v : Value} {y : DataW Value × List MemPlace} (h : RP v = some y) : ∃ o, v = ptrO o ∧ y = (.held (ptrO o), []) := by
 unfold RP at h
 split at h
 · rename_i hx; obtain ⟨o, rfl⟩ := hx; cases h; exact ⟨o, rfl, rfl⟩
 · cases h
def SaysP (D : DataW Value) (f : Int → Option Nat) : Prop := ∀ i, (∀ p, f i = some p → Maps.has D (key i) = true ∧ ∀ z, D.atKey (key i) z = .held (ptr p)) ∧ (f i = none → Maps.has D (key i) = false)
def Mq (w : World) (b n : Nat) (f : Int → Option Nat) : Prop := ∃ D : DataW Value, w.ownsMap Tryz.prog 3 RP b n D ∧ SaysP D f
def putP (f : Int → Option Nat) (i : Int) (o : Option Nat) : Int → Option Nat := fun j => if j = i then o else f j
theorem Mq.made (w : World) : Mq (w.alloc (.map #[] 0)) w.heap.size 0 (fun _ => none) := ⟨_, World.ownsMap_made w _ _ _, fun i => ⟨fun x h => (by cases h), fun _ => rfl⟩⟩
theorem SaysP.put {D : DataW Value} {f : Int → Option Nat} (h : SaysP D f) (hD : Maps.IsMap D) (i : Int) (p : Nat) : SaysP (D.put (key i) (.held (ptr p))) (putP f i (some p)) := fun j => by
 by_cases hi : j = i
 · subst hi
   refine ⟨fun y hy => ?_, fun hy => ?_⟩
   · unfold putP at hy; rw [if_pos rfl] at hy; cases hy
     have hk : WideAt.IsKeyLit (key j) := trivial
     exact ⟨Maps.has_put_same hD hk _, fun z => Maps.atKey_put_same hD hk _ z⟩
   · unfold putP at hy; rw [if_pos rfl] at hy; cases hy
 · have hne := key_ne hi
   refine ⟨fun y hy => ?_, fun hy => ?_⟩
   · unfold putP at hy; rw [if_neg hi] at hy
     obtain ⟨h1, h2⟩ := (h j).1 y hy
     exact ⟨(Maps.has_put_other hne _).trans h1, fun z => (Maps.atKey_put_other hne _ z).trans (h2 z)⟩
   · unfold putP at hy; rw [if_neg hi] at hy
     exact (Maps.has_put_other hne _).trans ((h j).2 hy)
theorem SaysP.del {D : DataW Value} {f : Int → Option Nat} (h : SaysP D f) (i : Int) : SaysP (D.del (key i)) (putP f i none) := fun j => by
 by_cases hi : j = i
 · subst hi
   refine ⟨fun y hy => ?_, fun hy => Maps.has_del_same⟩
   unfold putP at hy; rw [if_pos rfl] at hy; cases hy
 · have hne := key_ne hi
   refine ⟨fun y hy => ?_, fun hy => ?_⟩
   · unfold putP at hy; rw [if_neg hi] at hy
     obtain ⟨h1, h2⟩ := (h j).1 y hy
     exact ⟨(Maps.has_del_other hne).trans h1, fun z => (Maps.atKey_del_other hne z).trans (h2 z)⟩
   · unfold putP at hy; rw [if_neg hi] at hy
     exact (Maps.has_del_other hne).trans ((h j).2 hy)
theorem Mq.lt {w : World} {b n : Nat} {f : Int → Option Nat} (h : Mq w b n f) : b < w.heap.size := by obtain ⟨D, h, _⟩ := h; exact h.lt
theorem Mq.tch {S : Nat → Prop} {w w' : World} {b n : Nat} {f : Int → Option Nat} (h : Mq w b n f) (ht : Tch S w w') (hS : ¬ S b) : Mq w' b n f := by
 obtain ⟨D, ⟨es, clock, hb, hrest⟩, hs⟩ := h
 exact ⟨D, ⟨es, clock, ht.ob hb hS, hrest⟩, hs⟩
theorem Mq.on {w w' : World} {b n : Nat} {f : Int → Option Nat} (h : Mq w b n f) (hb : Below w.heap.size w w') : Mq w' b n f := h.tch (Tch.ofBelow (S := fun _ => False) hb) (fun h => h)
theorem Mq.map {w : World} {b n : Nat} {f : Int → Option Nat} (h : Mq w b n f) : ∃ es k, w.heap[b]? = some (.map es k) := by
 obtain ⟨D, ⟨es, clock, hb, _⟩, _⟩ := h
 exact ⟨_, _, hb⟩
theorem Mq.mono {w : World} {b n n' : Nat} {f : Int → Option Nat} (h : Mq w b n f) (hn : n ≤ n') : Mq w b n' f := by
 obtain ⟨D, h, hs⟩ := h
 exact ⟨D, h.mono hn, hs⟩
structure Lq (w : World) (B q b n : Nat) (nd N : Int) (f : Int → Option Nat) : Prop where
 ob : w.heap[q]? = some (.cells #[.int .i64 nd, .int .i64 N, .map (some b)] 68 (0, 0))
 mp : Mq w b n f
 lb : B ≤ b
section
variable {w w' : World} {B q b n : Nat} {nd N : Int} {f : Int → Option Nat}
theorem Lq.lt (h : Lq w B q b n nd N f) : q < w.heap.size := (Array.getElem?_eq_some_iff.1 h.ob).1
theorem Lq.tch {S : Nat → Prop} (h : Lq w B q b n nd N f) (ht : Tch S w w') (hq : ¬ S q) (hb : ¬ S b) : Lq w' B q b n nd N f := ⟨ht.ob h.ob hq, h.mp.tch ht hb, h.lb⟩
theorem Lq.on (h : Lq w B q b n nd N f) (hb : Below w.heap.size w w') : Lq w' B q b n nd N f := h.tch (Tch.ofBelow (S := fun _ => False) hb) (fun h => h) (fun h => h)
theorem Lq.cells (h : Lq w B q b n nd N f) : w.cell? ⟨q, 0, none⟩ = some (.int .i64 nd) ∧ w.cell? ⟨q, 1, none⟩ = some (.int .i64 N) ∧ w.cell? ⟨q, 2, none⟩ = some (.map (some b)) :=
 ⟨(cellAt' h.ob 0).trans rfl, (cellAt' h.ob 1).trans rfl, (cellAt' h.ob 2).trans rfl⟩
theorem Lq.nob (h : Lq w B q b n nd N f) : ∀ cur fz, w.heap[b]? ≠ some (.cells cur 42 fz) := fun cur fz e => by
 obtain ⟨es, k, hb⟩ := h.mp.map
 rw [hb] at e; cases e
theorem Lq.qa {p : Nat} {x : Ax} (h : Lq w B q b n nd N f) (ha : Ap w B p x) : ¬ TA p x q ∧ ¬ TA p x b := by
 refine ⟨?_, ?_⟩
 · rintro (e | e)
   · have : w.heap[p]? = some (.cells x.arr 71 (0, 0)) := ha.ob
     rw [← e, h.ob] at this; injection this with this; injection this with _ this; exact absurd this (by decide)
   · obtain ⟨_, cur, h2⟩ := own_no ha.ow e
     rw [h.ob] at h2; injection h2 with h2; injection h2 with _ h2; exact absurd h2 (by decide)
 · obtain ⟨es, k, hb⟩ := h.mp.map
   rintro (e | e)
   · have : w.heap[p]? = some (.cells x.arr 71 (0, 0)) := ha.ob
     rw [← e, hb] at this; cases this
   · obtain ⟨_, cur, h2⟩ := own_no ha.ow e
     rw [hb] at h2; cases h2
end
def Ms.atD (w : World) (x : Ms) : Prop := SetD w x.m.vp.v x.v ∧ SetD w x.m.xp.v x.a ∧ SetD w x.m.fp.v x.f
theorem Ms.atD.on {w w' : World} {x : Ms} (h : x.atD w) (hb : Below w.heap.size w w') : x.atD w' := ⟨h.1.on hb, h.2.1.on hb, h.2.2.on hb⟩
theorem Ms.atD.atC {B : Nat} {w : World} {x : Ms} (h : x.atD w) : x.atC B w := ⟨h.1.setC, h.2.1.setC, h.2.2.setC⟩
def OutM (B : Nat) (w : World) (v : Value) (ls : List Ms) : Prop :=
 SlM w v (mgs ls) ∧ ((v = .slice none 0 0 ∧ ls = []) ∨ ∃ g cap, v = .slice (some g) ls.length cap) ∧ (∀ a ∈ ls, a.atD w) ∧ ∀ k, v.ownBlock = some k → B ≤ k ∧ ∃ cur fz, w.heap[k]? = some (.cells cur 48 fz)
theorem OutM.nil (B : Nat) (w : World) : OutM B w (.slice none 0 0) [] := ⟨SlG.nil _ _ _, .inl ⟨rfl, rfl⟩, by simp, fun k e => by cases e⟩
theorem OutM.mono {B B' : Nat} {w : World} {v : Value} {ls : List Ms} (h : OutM B w v ls) (hB : B' ≤ B) : OutM B' w v ls := ⟨h.1, h.2.1, h.2.2.1, fun k hk => ⟨Nat.le_trans hB (h.2.2.2 k hk).1, (h.2.2.2 k hk).2⟩⟩
theorem tch_over {S S' : Nat → Prop} {a b c : World} (h : Tch S a b) (k : Tch S' b c) (hS : ∀ j, S' j → S j ∨ a.heap.size ≤ j) : Tch S a c :=
 ⟨k.os.trans h.os, k.tape.trans h.tape, k.output.trans h.output, Nat.le_trans h.size k.size, fun i hi hn => (k.block i (Nat.lt_of_lt_of_le hi h.size) fun hs => by rcases hS i hs with h1 | h1; exact hn h1; omega).trans (h.block i hi hn)⟩
def ActP (w : World) (B q b n : Nat) (nd N : Int) (f : Int → Option Nat) (p : Nat) (x : Ax) (r : Res) (e : Ending) (w' : World) : Prop :=
 ∃ v ls, e = .returned v ∧ OutM w.heap.size w' v ls ∧ ls.map Ms.an = r.2 ∧ Tch (fun k => k = b ∨ TA p x k) w w' ∧
  match r.1 with
  | none => Lq w' B q b n nd N (putP f x.c.i none)
  | some a => Lq w' B q b n nd N f ∧ ∃ x' : Ax, x'.att = a ∧ Ap w' B p x' ∧ (∀ k, x'.rv.v.ownBlock = some k → x.rv.v.ownBlock = some k ∨ w.heap.size ≤ k) ∧ ∀ k, v.ownBlock = some k → x'.rv.v.ownBlock ≠ some k
theorem ActP.from {w w1 w' : World} {B q b n : Nat} {nd N : Int} {f : Int → Option Nat} {p : Nat} {x x1 : Ax} {r : Res} {e : Ending} (h : ActP w1 B q b n nd N f p x1 r e w') (ht : Tch (fun k => k = b ∨ TA p x k) w w1) (hc : x1.c = x.c) (hr : ∀ k, x1.rv.v.ownBlock = some k → x.rv.v.ownBlock = some k ∨ w.heap.size ≤ k) : ActP w B q b n nd N f p x r e w' := by
 obtain ⟨v, ls, h1, h2, h3, h4, h5⟩ := h
 refine ⟨v, ls, h1, h2.mono ht.size, h3, tch_over ht h4 ?_, ?_⟩
 · rintro j (hj | hj | hj)
   · exact .inl (.inl hj)
   · exact .inl (.inr (.inl hj))
   · rcases hr j hj with h | h
     · exact .inl (.inr (.inr h))
     · exact .inr h
 · rcases r with ⟨_ | a, ms⟩
   · show Lq w' B q b n nd N (putP f x.c.i none)
     rw [← hc]; exact h5
   · obtain ⟨h6, x', h7, h8, h9, h10⟩ := h5
     refine ⟨h6, x', h7, h8, fun k hk => ?_, h10⟩
     rcases h9 k hk with h | h
     · exact hr k h
     · exact .inr (Nat.le_trans ht.size h)
theorem ActP.still {w w' : World} {B q b n : Nat} {nd N : Int} {f : Int → Option Nat} {p : Nat} {x : Ax} (hL : Lq w B q b n nd N f) (hA : Ap w B p x) (hb : Below w.heap.size w w') : ActP w B q b n nd N f p x (some x.att, []) (.returned (.slice none 0 0)) w' :=
 ⟨_, [], rfl, OutM.nil _ _, rfl, Tch.ofBelow hb, hL.on hb, x, rfl, hA.on hb, fun k hk => .inl hk, fun k hk => (by cases hk)⟩
structure Sz (k : Nat) (x : Ax) : Prop where
 len : x.rs.length ≤ k
 vl : x.vl.length ≤ 1024
 sh : ∀ m ∈ x.rs, m.short 1024
 wf : (Lit.int .i64 x.c.i).wf = true
end Go.Proofs.YtplodoindppleaaGreat
