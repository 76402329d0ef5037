import Derived.Test.YtbcmhnaiabifjaaHAllZm
import Derived.Laws.CopyOwn
import Derived.Laws.IdiomCopy
import Derived.Laws.NewBlocks
import Derived.Test.YtbcmhnaiabifjaaHAliveHZm
import Derived.Test.YtbcmhnaiabifjaaG08
import Derived.Lib.SliceRun
namespace Go.Proofs.Ytbcmhnaiabifjaa
set_option linter.unusedVariables false
open Go.RowKit
open Go.Lib (hid)
open Go.Deep (blk_setCell_other nblk_setCell)
theorem splice_len {α : Type} {L : List α} {off : Nat} {cs : List α} (h : off + cs.length ≤ L.length) : (splice L off cs).length = L.length := length_splice L off cs h
theorem setCells_row {w : World} {g : Nat} {cur : Array Value} {t : TypeId} (hg : w.heap[g]? = some (.cells cur t (0, 0))) (vs : List Value) (o : Nat) (h : o + vs.length ≤ cur.size) (h1 : ∀ v ∈ vs, v.oneCell' = true) :
    w.setCells g o vs = w.setRow g (splice cur.toList o vs).toArray := by
  have a := run_storeCells_at Try.prog g o t vs 0 cur w hg (by simpa using h) h1
  have b := run_storeCells_cells (P := Try.prog) g o vs 0 w (fun j hj => by rw [cellAt' hg]; simp; omega) (fun j hj => by simp [World.frozen?, hg]) h1
  rw [a] at b
  injection b with _ b
  simpa [splice] using b.symm
theorem splice_in {α : Type} {A X C vs : List α} {off : Nat} (h : off + vs.length ≤ X.length) : splice (A ++ (X ++ C)) (A.length + off) vs = A ++ (splice X off vs ++ C) := by
  unfold splice
  have h1 : (A ++ (X ++ C)).take (A.length + off) = A ++ X.take off := by
    rw [List.take_append, List.take_of_length_le (by omega), show A.length + off - A.length = off by omega, List.take_append_of_le_length (by omega)]
  have h2 : (A ++ (X ++ C)).drop (A.length + off + vs.length) = X.drop (off + vs.length) ++ C := by
    rw [List.drop_append, List.drop_of_length_le (by omega), List.nil_append, show A.length + off + vs.length - A.length = off + vs.length by omega, List.drop_append_of_le_length (by omega)]
  rw [h1, h2]
  simp [List.append_assoc]
theorem flat_set {ms : List Mg} {i : Nat} {x x' : Mg} (hx : ms[i]? = some x) {off : Nat} {vs : List Value} (he : splice x.list off vs = x'.list) (ho : off + vs.length ≤ 20) (rest : List Value) :
    splice (flatG Mg.list ms ++ rest) (i * 20 + off) vs = flatG Mg.list (ms.set i x') ++ rest := by
  have hi := (List.getElem?_eq_some_iff.1 hx).1
  have hxi := (List.getElem?_eq_some_iff.1 hx).2
  have e1 : ms = ms.take i ++ x :: ms.drop (i + 1) := by
    conv => lhs; rw [← List.take_append_drop i ms, List.drop_eq_getElem_cons hi, hxi]
  have hl : (flatG Mg.list (ms.take i)).length = i * 20 := by rw [flatG_len kM, List.length_take, Nat.min_eq_left (Nat.le_of_lt hi)]
  have e2 : ms.set i x' = ms.take i ++ x' :: ms.drop (i + 1) := by
    rw [List.set_eq_take_append_cons_drop, if_pos hi]
  conv => lhs; rw [e1]
  rw [e2, flatG_append, flatG_cons, flatG_append, flatG_cons, List.append_assoc, List.append_assoc, ← hl, splice_in (by rw [kM]; exact ho), he]
  simp [List.append_assoc]
theorem own_setM {w : World} {B g cap n : Nat} {ms : List Mg} {i off : Nat} {x x' : Mg} {vs : List Value} (h : OwnM w B (.slice (some ⟨g, 0, none⟩) n cap) ms) (hx : ms[i]? = some x) (he : splice x.list off vs = x'.list) (ho : off + vs.length ≤ 20) (h1 : ∀ v ∈ vs, v.oneCell' = true) :
    OwnM (w.setCells g (i * 20 + off) vs) B (.slice (some ⟨g, 0, none⟩) n cap) (ms.set i x') := by
  have hi := (List.getElem?_eq_some_iff.1 hx).1
  rcases h.2 with ⟨e, _⟩ | ⟨g', cap', cur, e, hb, hg, hn, hm, hs, ht⟩
  · cases e
  · injection e with e1 e2 e3
    injection e1 with e1
    injection e1 with e1
    subst e1 e3
    have hfl : (flatG Mg.list ms).length = ms.length * 20 := flatG_len kM ms
    have hnl : ms.length * 20 ≤ cur.size := by
      have : (cur.toList.take (ms.length * 20)).length = ms.length * 20 := by rw [ht, hfl]
      rw [List.length_take, Array.length_toList] at this
      omega
    have hsz : i * 20 + off + vs.length ≤ cur.size := by
      have : (i + 1) * 20 ≤ ms.length * 20 := Nat.mul_le_mul_right 20 hi
      omega
    have hr := setCells_row hg vs (i * 20 + off) hsz h1
    rw [hr]
    refine ⟨?_, .inr ⟨g, cap, (splice cur.toList (i * 20 + off) vs).toArray, ?_, hb, setRow_heap _ _ _ _ _ _ hg, ?_, hm, ?_, ?_⟩⟩
    · rw [flatG_len kM]
    · rw [e2, List.length_set]
    · rw [List.length_set]; exact hn
    · rw [List.size_toArray, splice_len (by rw [Array.length_toList]; omega), Array.length_toList]; exact hs
    · have hd : cur.toList = flatG Mg.list ms ++ cur.toList.drop (ms.length * 20) := by
        conv => lhs; rw [← List.take_append_drop (ms.length * 20) cur.toList, ht]
      show ((splice cur.toList (i * 20 + off) vs).toArray.toList).take _ = _
      rw [hd, flat_set hx he ho, List.length_set]
      have hl2 : (flatG Mg.list (ms.set i x')).length = ms.length * 20 := by rw [flatG_len kM, List.length_set]
      rw [← hl2]
      simp
theorem own_at {w : World} {B g cap n : Nat} {ms : List Mg} {i : Nat} {x : Mg} (h : OwnM w B (.slice (some ⟨g, 0, none⟩) n cap) ms) (hx : ms[i]? = some x) : w.rangeAt g (i * 20) x.list ∧ (∀ off, w.frozen? ⟨g, i * 20 + off, none⟩ = false) ∧ (∀ off k, off + k ≤ 20 → w.there g (i * 20 + off) k) ∧ B ≤ g ∧ g < w.heap.size := by
  have hi := (List.getElem?_eq_some_iff.1 hx).1
  have hr : SlM w (.slice (some ⟨g, 0, none⟩) n cap) ms := OwnG.slG kM h
  have hlt := h.lt g rfl
  rcases h.2 with ⟨e, _⟩ | ⟨g', cap', cur, e, hb, hg, hn, hm, hs, ht⟩
  · cases e
  · injection e with e1 e2 e3
    injection e1 with e1
    injection e1 with e1
    subst e1 e3
    have hfl : (flatG Mg.list ms).length = ms.length * 20 := flatG_len kM ms
    have hnl : ms.length * 20 ≤ cur.size := by
      have : (cur.toList.take (ms.length * 20)).length = ms.length * 20 := by rw [ht, hfl]
      rw [List.length_take, Array.length_toList] at this
      omega
    obtain ⟨b, o, c, a, e, ha, hc, hb2⟩ := hr
    injection e with e4 e5 e6
    have ha' := ha (by omega)
    rw [← e4] at ha'
    injection ha' with ha'
    injection ha' with h1 h2
    subst h1 h2
    have := hc i x hx
    rw [Nat.zero_add] at this
    have h20 : (i + 1) * 20 ≤ ms.length * 20 := Nat.mul_le_mul_right 20 hi
    exact ⟨this, fun off => frozenAt hg _, fun off k hk => thereAt hg (by omega), hlt.1, hlt.2⟩
theorem storeRV {ops : Array Oper} {rest : List Oper} {op : Oper} {c : Act} {w : World} {Q : Exit → Act → World → Prop} {x y : Operand} {B g cap n i off : Nat} {ms : List Mg} {m m' : Mg} (t : Int) (p : Sv) (hgd : op.guard = none) (ho : op.op = .store 28 x y)
    (hx : c.eval x = .pointer (some ⟨g, i * 20 + off, none⟩)) (hy : c.eval y = .agg (varr t p)) (hO : OwnM w B (.slice (some ⟨g, 0, none⟩) n cap) ms) (hm : ms[i]? = some m) (he : splice m.list off (vcs t p) = m'.list) (hof : off + 2 ≤ 20)
    (h : ∀ W, OwnM W B (.slice (some ⟨g, 0, none⟩) n cap) (ms.set i m') → Upd g w W → wpList Try.prog ops Q rest (c.put op.dst undef) W) : wpList Try.prog ops Q (op :: rest) c w :=
  wpList_store_mid hgd 28 x y ho g (i * 20 + off) (varr t p) hx hy ((own_at hO hm).2.2.1 off 2 hof) (infoVl' t p) (varr_one t p) (h _ (own_setM hO hm he hof (fun v hv => by rw [varr_list] at hv; unfold vcs at hv; simp at hv; rcases hv with h | h <;> subst h <;> rfl)) (setsUpd' w g (i * 20 + off) _))
def modF (f : Ms) (b : Bool) (x : Ms) : Ms := ⟨{ x.m with fl := false, ab := 0, xt := 0, xp := zS, ft := if b = true then f.m.ft else x.m.ft, fp := if b = true then f.m.fp else x.m.fp }, x.v, [], if b = true then f.f else x.f⟩
def onW (g : Nat → Ms → Ms) (L : List Ms) (k : Nat) : List Ms := (List.range L.length).map fun j => match L[j]? with | some x => if j < k then g j x else x | none => ⟨zM, [], [], []⟩
theorem onW_len (g : Nat → Ms → Ms) (L : List Ms) (k : Nat) : (onW g L k).length = L.length := by unfold onW; simp
theorem onW_at {g : Nat → Ms → Ms} {L : List Ms} {k j : Nat} {x : Ms} (h : L[j]? = some x) : (onW g L k)[j]? = some (if j < k then g j x else x) := by
  unfold onW
  have := (List.getElem?_eq_some_iff.1 h).1
  rw [List.getElem?_map, List.getElem?_range this]
  simp [h]
theorem onW_zero (g : Nat → Ms → Ms) (L : List Ms) : onW g L 0 = L := by
  apply List.ext_getElem?
  intro j
  by_cases hj : j < L.length
  · rw [onW_at (List.getElem?_eq_getElem hj), List.getElem?_eq_getElem hj]; simp
  · rw [List.getElem?_eq_none (by rw [onW_len]; omega), List.getElem?_eq_none (by omega)]
theorem onW_next {g g' : Nat → Ms → Ms} {L : List Ms} {k : Nat} {x : Ms} (h : L[k]? = some x) (hg : ∀ j, j < k → g' j = g j) : mgs (onW g' L (k + 1)) = (mgs (onW g L k)).set k (g' k x).m := by
  have hk := (List.getElem?_eq_some_iff.1 h).1
  apply List.ext_getElem?
  intro j
  rw [List.getElem?_set]
  unfold mgs
  rw [List.length_map, onW_len]
  by_cases hj : j < L.length
  · obtain ⟨y, hy⟩ : ∃ y, L[j]? = some y := ⟨_, List.getElem?_eq_getElem hj⟩
    rw [List.getElem?_map, onW_at hy]
    by_cases e : k = j
    · subst e
      rw [h] at hy
      obtain rfl := Option.some.inj hy
      simp [hk]
    · rw [if_neg e, List.getElem?_map, onW_at hy]
      by_cases hjk : j < k
      · rw [if_pos (by omega), if_pos hjk, hg j hjk]
      · rw [if_neg (by omega), if_neg hjk]
  · rw [List.getElem?_eq_none (by rw [List.length_map, onW_len]; omega)]
    rw [if_neg (by omega), List.getElem?_eq_none (by rw [List.length_map, onW_len]; omega)]
theorem onW_mem {g : Nat → Ms → Ms} {L : List Ms} {k : Nat} {z : Ms} (h : z ∈ onW g L k) : ∃ j x, L[j]? = some x ∧ z = if j < k then g j x else x := by
  obtain ⟨j, hj⟩ := List.getElem?_of_mem h
  have hl := (List.getElem?_eq_some_iff.1 hj).1
  rw [onW_len] at hl
  have hx := List.getElem?_eq_getElem hl
  rw [onW_at hx] at hj
  exact ⟨j, _, hx, (Option.some.inj hj).symm⟩
theorem onW_take {g : Nat → Ms → Ms} {L : List Ms} {k : Nat} {x : Ms} (h : L[k]? = some x) : (onW g L (k + 1)).take (k + 1) = (onW g L k).take k ++ [g k x] := by
  have hk := (List.getElem?_eq_some_iff.1 h).1
  rw [List.take_add_one, onW_at h, if_pos (Nat.lt_succ_self k)]
  congr 1
  apply List.ext_getElem?
  intro j
  by_cases hj : j < k
  · obtain ⟨y, hy⟩ : ∃ y, L[j]? = some y := ⟨_, List.getElem?_eq_getElem (by omega)⟩
    rw [List.getElem?_take, List.getElem?_take, if_pos hj, if_pos hj, onW_at hy, onW_at hy, if_pos (by omega), if_pos hj]
  · rw [List.getElem?_take, List.getElem?_take, if_neg hj, if_neg hj]
theorem mkA_is (ls : List Ms) (c : C7) (i : Nat) : (mkA ls c i).m.so = 4 ∧ (mkA ls c i).m.fr = (i : Int) ∧ (mkA ls c i).m.bal = 9 ∧ (mkA ls c i).m.c = c := by
  unfold mkA
  rcases ls[i]? with _ | y <;> exact ⟨rfl, rfl, rfl, rfl⟩
theorem allA_at {ls : List Ms} {c : C7} {n j : Nat} (hj : j < n) : (allA ls c n)[j]? = some (mkA ls c j) := by
  unfold allA; rw [List.getElem?_map, List.getElem?_range hj]; rfl
theorem good_of {m : Ms} (h : rightM m = true) : m.m.c.ok = true ∧ inB m.m.fr 9 = true ∧ inB m.m.tt 9 = true ∧ withinB m.m.bal 1048576 = true := by
  have := right_own h
  exact ⟨this.2.2.2.2.1, this.2.1, this.2.2.1, this.2.2.2.1⟩
theorem modF_right {f x : Ms} {b : Bool} (h : rightM x = true) (hs : x.m.so = 4) (hf : fullB f.m.ft f.f = true) : rightM (modF f b x) = true := by
  have hg := good_of h
  rw [right_F hg hs] at h
  have hg' : (modF f b x).m.c.ok = true ∧ inB (modF f b x).m.fr 9 = true ∧ inB (modF f b x).m.tt 9 = true ∧ withinB (modF f b x).m.bal 1048576 = true := hg
  rw [right_F hg' (show (modF f b x).m.so = 4 from hs)]
  simp only [Bool.and_eq_true] at h ⊢
  refine ⟨h.1, h.2.1, h.2.2.1, ?_, ?_, rfl⟩
  · rcases b with _ | _
    · exact h.2.2.2.1
    · show (fullB f.m.ft f.f || noneB f.m.ft f.f) = true
      rw [hf]; rfl
  · rfl
def modA (f : Ms) (a : Int) (x : Ms) : Ms := if f.m.ab ≤ a then ⟨{ x.m with ab := a, xt := f.m.xt, xp := f.m.xp }, x.v, f.a, x.f⟩ else ⟨{ x.m with ab := a }, x.v, x.a, x.f⟩
def modB (f : Ms) (b : Bool) (x : Ms) : Ms := modA f (if b = true then max x.m.ab f.m.ab else x.m.ab) x
theorem modA_right {f x : Ms} {a : Int} (h : rightM x = true) (hs : x.m.so = 4) (hf : fullB f.m.xt f.a = true) (ha : withinB a 1048576 = true) : rightM (modA f a x) = true := by
  have hg := good_of h
  rw [right_F hg hs] at h
  simp only [Bool.and_eq_true] at h
  unfold modA
  split
  · have hg' : (⟨{ x.m with ab := a, xt := f.m.xt, xp := f.m.xp }, x.v, f.a, x.f⟩ : Ms).m.c.ok = true ∧ inB x.m.fr 9 = true ∧ inB x.m.tt 9 = true ∧ withinB x.m.bal 1048576 = true := hg
    rw [right_F (m := ⟨{ x.m with ab := a, xt := f.m.xt, xp := f.m.xp }, x.v, f.a, x.f⟩) hg' hs]
    simp only [Bool.and_eq_true]
    exact ⟨h.1, h.2.1, h.2.2.1, h.2.2.2.1, by show (fullB f.m.xt f.a || noneB f.m.xt f.a) = true; rw [hf]; rfl, ha⟩
  · rw [right_F (m := ⟨{ x.m with ab := a }, x.v, x.a, x.f⟩) hg hs]
    simp only [Bool.and_eq_true]
    exact ⟨h.1, h.2.1, h.2.2.1, h.2.2.2.1, h.2.2.2.2.1, ha⟩
theorem modB_right {f x : Ms} {b : Bool} (h : rightM x = true) (hs : x.m.so = 4) (hf : fullB f.m.xt f.a = true) (hb : withinB f.m.ab 1048576 = true) : rightM (modB f b x) = true := by
  refine modA_right h hs hf ?_
  have hx := (prom_parts h hs).2.2.2.1
  have hb' := within_le hb
  rcases b with _ | _
  · unfold withinB; simp; omega
  · unfold withinB; simp; omega
end Go.Proofs.Ytbcmhnaiabifjaa
namespace Go.Proofs.Ytbcmhnaiabifjaa
set_option linter.unusedVariables false
open Go.RowKit
open Go.Lib (hid)
theorem mB_set : (mB false).arr.setIfInBounds 13 (.bool true) = (mB true).arr := rfl
set_option maxHeartbeats 16000000 in
set_option maxRecDepth 100000 in
theorem cAlive15 (w : World) : Calls Try.prog 7 #[] w fun e w' => e = .returned (.bool true) ∧ Below w.heap.size w w' := by
  go_enter Try.func7, Try.ntmps7
  have HC2 : Hid (((w.alloc (.cells #[.int .i64 16, .int .i64 1, .int .i64 0, .int .i64 17, .int .i64 0, .int .i64 0, .int .i64 0] 47)).alloc (.cells #[.int .i64 32, .slice none 0 0] 28)).heap[w.heap.size]? = some (.cells #[.int .i64 16, .int .i64 1, .int .i64 0, .int .i64 17, .int .i64 0, .int .i64 0, .int .i64 0] 47)) := hid (laid2_0 w _ _)
  have HV2 : Hid (((w.alloc (.cells #[.int .i64 16, .int .i64 1, .int .i64 0, .int .i64 17, .int .i64 0, .int .i64 0, .int .i64 0] 47)).alloc (.cells #[.int .i64 32, .slice none 0 0] 28)).heap[w.heap.size + 1]? = some (.cells #[.int .i64 32, .slice none 0 0] 28)) := hid (laid2_1 w _ _)
  have HB2 : Hid (Below w.heap.size w ((w.alloc (.cells #[.int .i64 16, .int .i64 1, .int .i64 0, .int .i64 17, .int .i64 0, .int .i64 0, .int .i64 0] 47)).alloc (.cells #[.int .i64 32, .slice none 0 0] 28))) := hid (laid2_b w _ _)
  have HZ2 : Hid (((w.alloc (.cells #[.int .i64 16, .int .i64 1, .int .i64 0, .int .i64 17, .int .i64 0, .int .i64 0, .int .i64 0] 47)).alloc (.cells #[.int .i64 32, .slice none 0 0] 28)).heap.size = w.heap.size + 2) := hid (by simp)
  go_upto_region 3 with fail
  generalize ((w.alloc (.cells #[.int .i64 16, .int .i64 1, .int .i64 0, .int .i64 17, .int .i64 0, .int .i64 0, .int .i64 0] 47)).alloc (.cells #[.int .i64 32, .slice none 0 0] 28)) = W2 at HC2 HV2 HB2 HZ2 ⊢
  have HF : Hid (∀ W, Below W2.heap.size W2 W → W.cell? ⟨w.heap.size, 0, none⟩ = some (.int .i64 16) ∧ W.cell? ⟨w.heap.size, 1, none⟩ = some (.int .i64 1) ∧ W.cell? ⟨w.heap.size, 2, none⟩ = some (.int .i64 0) ∧ W.cell? ⟨w.heap.size, 3, none⟩ = some (.int .i64 17) ∧ W.cell? ⟨w.heap.size, 4, none⟩ = some (.int .i64 0) ∧ W.cell? ⟨w.heap.size, 5, none⟩ = some (.int .i64 0) ∧ W.cell? ⟨w.heap.size, 6, none⟩ = some (.int .i64 0) ∧ W.cell? ⟨w.heap.size + 1, 0, none⟩ = some (.int .i64 32) ∧ W.cell? ⟨w.heap.size + 1, 1, none⟩ = some (.slice none 0 0)) := hid (fun W hW => by have h1 := (hW.block w.heap.size (by have := HZ2.out; omega)).trans HC2.out; have h2 := (hW.block (w.heap.size + 1) (by have := HZ2.out; omega)).trans HV2.out; exact ⟨(cellAt' h1 0).trans rfl, (cellAt' h1 1).trans rfl, (cellAt' h1 2).trans rfl, (cellAt' h1 3).trans rfl, (cellAt' h1 4).trans rfl, (cellAt' h1 5).trans rfl, (cellAt' h1 6).trans rfl, (cellAt' h2 0).trans rfl, (cellAt' h2 1).trans rfl⟩)
  obtain ⟨c0, c1, c2, c3, c4, c5, c6, v0, v1⟩ := HF.out W2 (Below.refl _ _)
  go_upto_region 4 with (first
    | ((with_reducible refine wpList_bdA (x0 := ?x0_1) (x3 := ?x3_1) (x4 := ?x4_1) (x7 := ?x7_1) (x10 := ?x10_1) 4 7 cL 49 32 ?bg_1 ?bo_1 ?be0_1 ?be3_1 ?be4_1 ?be7_1 ?be10_1 ?_); (case bg_1 => rfl); (case bo_1 => rfl); (case be0_1 => rfl); (case be3_1 => rfl); (case be4_1 => rfl); (case be7_1 => rfl); (case be10_1 => rfl))
    | ((with_reducible refine storeM (x := ?sx2) (y := ?sy2) (b := W2.heap.size) mA ?sg2 ?so2 ?sxx2 ?syy2 ?sc2 ?sh2); (case sg2 => rfl); (case so2 => rfl); (case sxx2 => rfl); (case syy2 => rfl); (case sc2 => exact roomZ _); intro W3 hO hU; have HA3 : Hid (OM W3 W2.heap.size mA) := hid hO; have HB3 : Hid (Below W2.heap.size W2 W3) := hid ((laid1_b W2 zeroMc).trans (hU.below W2.heap.size (Nat.le_refl _))); clear hO hU)
    | fail)
  clear c0 c1 c2 c3 c4 c5 c6 v0 v1
  obtain ⟨c0, c1, c2, c3, c4, c5, c6, v0, v1⟩ := HF.out W3 HB3.out
  have HL3 := hid (Array.getElem?_eq_some_iff.1 HA3.out).1
  go_upto_region 5 with (first
    | ((with_reducible refine wpList_bdB (x0 := ?x0_3) (x1 := ?x1_3) (x3 := ?x3_3) (x4 := ?x4_3) (x7 := ?x7_3) (x10 := ?x10_3) 4 1 7 cL 66 32 ?bg_3 ?bo_3 ?be0_3 ?be1_3 ?be3_3 ?be4_3 ?be7_3 ?be10_3 ?_); (case bg_3 => rfl); (case bo_3 => rfl); (case be0_3 => rfl); (case be1_3 => rfl); (case be3_3 => rfl); (case be4_3 => rfl); (case be7_3 => rfl); (case be10_3 => rfl))
    | ((with_reducible refine storeM (x := ?sx4) (y := ?sy4) (b := W3.heap.size) (mB false) ?sg4 ?so4 ?sxx4 ?syy4 ?sc4 ?sh4); (case sg4 => rfl); (case so4 => rfl); (case sxx4 => rfl); (case syy4 => rfl); (case sc4 => exact roomZ _); intro W4 hO hU; have HBb4 : Hid (OM W4 W3.heap.size (mB false)) := hid hO; have HS4 : Hid (Below W3.heap.size W3 W4) := hid ((laid1_b W3 zeroMc).trans (hU.below W3.heap.size (Nat.le_refl _))); have HA4 : Hid (OM W4 W2.heap.size mA) := hid (heapB HA3.out HS4.out HL3.out); clear hO hU)
    | fail)
  clear c0 c1 c2 c3 c4 c5 c6 v0 v1
  have HB4 : Hid (Below W2.heap.size W2 W4) := hid (HB3.out.trans (HS4.out.mono HB3.out.size))
  have HL4 := hid (Array.getElem?_eq_some_iff.1 HBb4.out).1
  go_upto_region 6 with (first
    | ((with_reducible refine loadM (x := ?lx5) (b := W2.heap.size) mA ?lg5 ?lo5 ?lxx5 ?lc5 ?lh5); (case lg5 => rfl); (case lo5 => rfl); (case lxx5 => rfl); (case lc5 => exact HA4.out))
    | ((with_reducible refine loadM (x := ?lx6) (b := W3.heap.size) (mB false) ?lg6 ?lo6 ?lxx6 ?lc6 ?lh6); (case lg6 => rfl); (case lo6 => rfl); (case lxx6 => rfl); (case lc6 => exact HBb4.out))
    | ((with_reducible refine wpList_bs2 (x := ?ex7) (y := ?ey7) false ?eg7 ?eo7 ?exx7 ?eyy7 ?eh7); (case eg7 => rfl); (case eo7 => rfl); (case exx7 => rfl); (case eyy7 => rfl); intro W5 hX hB; have HX5 := hid hX; have HS5 := hid hB; clear hX hB)
    | (go_at_call 8; refine (cChoose0L W5 HX5.out).mono ?_; rintro e W6 ⟨r, rfl, hB⟩; have HS6 := hid hB; clear hB)
    | ((with_reducible refine storeCh (x := ?cx8) (y := ?cy8) (b := W6.heap.size) 2 32 r ?cg8 ?co8 ?cxx8 ?cyy8 ?cc8 ?ch8); (case cg8 => rfl); (case co8 => rfl); (case cxx8 => rfl); (case cyy8 => rfl); (case cc8 => exact roomCZ _); intro W7 hO hU; have HC7 : Hid (OC W7 W6.heap.size 2 32 r) := hid hO; have HS7 : Hid (Below W6.heap.size W6 W7) := hid ((laid1_b W6 zeroCc).trans (hU.below W6.heap.size (Nat.le_refl _))); clear hO hU)
    | fail)
  have HS47 : Hid (Below W4.heap.size W4 W7) := hid (HS5.out.trans ((HS6.out.trans (HS7.out.mono HS6.out.size)).mono HS5.out.size))
  have HA7 : Hid (OM W7 W2.heap.size mA) := hid (heapB HA4.out HS47.out (Array.getElem?_eq_some_iff.1 HA4.out).1)
  have HBb7 : Hid (OM W7 W3.heap.size (mB false)) := hid (heapB HBb4.out HS47.out HL4.out)
  have b0 : W7.cell? ⟨W3.heap.size, 13, none⟩ = some (.bool false) := HBb7.out.cell (m := mB false) (j := 13) rfl
  have b1 : W7.frozen? ⟨W3.heap.size, 13, none⟩ = false := HBb7.out.free 13
  go_upto_region 7 with fail
  obtain ⟨W8, hW8⟩ : ∃ z, z = W7.setCell ⟨W3.heap.size, 13, none⟩ (.bool true) := ⟨_, rfl⟩
  rw [← hW8]
  have HT8 : Hid (Tch (fun k => k = W3.heap.size) W7 W8) := hid (by rw [hW8]; exact Tch.ofGrown (grownSet W7 ⟨W3.heap.size, 13, none⟩ (.bool true)) fun k e => (Option.some.inj e).symm)
  have HBb8 : Hid (OM W8 W3.heap.size (mB true)) := hid (by rw [hW8]; exact HBb7.out.set mB_set)
  have HL6 : Hid (W3.heap.size < W6.heap.size) := hid (Nat.lt_of_lt_of_le HL4.out (Nat.le_trans HS5.out.size HS6.out.size))
  have HA8 : Hid (OM W8 W2.heap.size mA) := hid ((HT8.out.block _ (Array.getElem?_eq_some_iff.1 HA7.out).1 (by have := HL3.out; omega)).trans HA7.out)
  have HC8 : Hid (OC W8 W6.heap.size 2 32 r) := hid ((HT8.out.block _ (Array.getElem?_eq_some_iff.1 HC7.out).1 (by have := HL6.out; omega)).trans HC7.out)
  have HB8 : Hid (Below W2.heap.size W2 W8) := hid (by rw [hW8]; exact (HB4.out.trans (HS47.out.mono HB4.out.size)).grown (grownSet W7 ⟨W3.heap.size, 13, none⟩ (.bool true)) (Nat.le_trans HB4.out.size HS47.out.size) (fun k hk => by injection hk with hk; subst hk; exact HB3.out.size))
  clear hW8 b0 b1
  obtain ⟨r0, hr0⟩ : ∃ z : Sv, z = r := ⟨_, rfl⟩
  rw [← hr0] at HC8
  clear hr0
  go_upto_region 8 with (first
    | ((with_reducible refine loadM (x := ?lx9) (b := W2.heap.size) mA ?lg9 ?lo9 ?lxx9 ?lc9 ?lh9); (case lg9 => rfl); (case lo9 => rfl); (case lxx9 => rfl); (case lc9 => exact HA8.out))
    | ((with_reducible refine loadM (x := ?lx10) (b := W3.heap.size) (mB true) ?lg10 ?lo10 ?lxx10 ?lc10 ?lh10); (case lg10 => rfl); (case lo10 => rfl); (case lxx10 => rfl); (case lc10 => exact HBb8.out))
    | ((with_reducible refine wpList_bs2 (x := ?ex11) (y := ?ey11) true ?eg11 ?eo11 ?exx11 ?eyy11 ?eh11); (case eg11 => rfl); (case eo11 => rfl); (case exx11 => rfl); (case eyy11 => rfl); intro W9 hX hB; have HX9 := hid hX; have HS9 := hid hB; clear hX hB)
    | (go_at_call 8; refine (cChoose1L W9 HX9.out).mono ?_; rintro e W10 ⟨r, rfl, hB⟩; have HS10 := hid hB; clear hB)
    | ((with_reducible refine storeCh (x := ?cx12) (y := ?cy12) (b := W10.heap.size) 3 66 r ?cg12 ?co12 ?cxx12 ?cyy12 ?cc12 ?ch12); (case cg12 => rfl); (case co12 => rfl); (case cxx12 => rfl); (case cyy12 => rfl); (case cc12 => exact roomCZ _); intro W11 hO hU; have HC11 : Hid (OC W11 W10.heap.size 3 66 r) := hid hO; have HS11 : Hid (Below W10.heap.size W10 W11) := hid ((laid1_b W10 zeroCc).trans (hU.below W10.heap.size (Nat.le_refl _))); clear hO hU)
    | fail)
  have HS811 : Hid (Below W8.heap.size W8 W11) := hid (HS9.out.trans ((HS10.out.trans (HS11.out.mono HS10.out.size)).mono HS9.out.size))
  have HC8' : Hid (OC W11 W6.heap.size 2 32 r0) := hid (heapB HC8.out HS811.out (Array.getElem?_eq_some_iff.1 HC8.out).1)
  have a0 : W11.cell? ⟨W6.heap.size, 0, none⟩ = some (.int .i64 2) := (cellAt' HC8'.out 0).trans rfl
  have a1 : W11.cell? ⟨W6.heap.size, 1, none⟩ = some (.int .i64 32) := (cellAt' HC8'.out 1).trans rfl
  have a2 : W11.cell? ⟨W10.heap.size, 0, none⟩ = some (.int .i64 3) := (cellAt' HC11.out 0).trans rfl
  have a3 : W11.cell? ⟨W10.heap.size, 1, none⟩ = some (.int .i64 66) := (cellAt' HC11.out 1).trans rfl
  go_wp2_with fail
  go_ret
  exact ⟨rfl, HB2.out.trans ((HB8.out.trans (HS811.out.mono HB8.out.size)).mono HB2.out.size)⟩
end Go.Proofs.Ytbcmhnaiabifjaa
namespace Go.Proofs.Ytbcmhnaiabifjaa
set_option linter.unusedVariables false
open Go.RowKit
open Go.Lib (hid)
def fitsM (m : Ms) : Bool := decide (m.v.length ≤ 100) && (decide (m.a.length ≤ 100) && decide (m.f.length ≤ 100))
theorem fitsM_short {m : Ms} (h : fitsM m = true) : m.short 100 := by
  unfold fitsM at h
  simp only [Bool.and_eq_true, decide_eq_true_eq] at h
  exact ⟨h.1, h.2.1, h.2.2⟩
set_option maxHeartbeats 4000000 in
set_option maxRecDepth 100000 in
theorem cFitsM {w : World} {m : Ms} (hm : m.at w) : Calls Try.prog 18 #[.agg m.m.arr] w fun e w' => e = .returned (.bool (fitsM m)) ∧ Below w.heap.size w w' := by
  have HB := hid (laid1_b w (.cells m.m.arr 49))
  have HM : Hid (OM (w.alloc (.cells m.m.arr 49)) w.heap.size m.m) := hid (laid1_0 w _)
  have e1 := hm.1.lenP
  have e2 := hm.2.1.lenP
  have e3 := hm.2.2.lenP
  obtain ⟨n1, h1⟩ : ∃ n, n = m.m.vp.n := ⟨_, rfl⟩
  obtain ⟨n2, h2⟩ : ∃ n, n = m.m.xp.n := ⟨_, rfl⟩
  obtain ⟨n3, h3⟩ : ∃ n, n = m.m.fp.n := ⟨_, rfl⟩
  have HE : Hid (fitsM m = (decide (n1 ≤ 100) && (decide (n2 ≤ 100) && decide (n3 ≤ 100)))) := hid (by unfold fitsM; rw [h1, h2, h3, e1, e2, e3])
  have H1 := hid h1
  have H2 := hid h2
  have H3 := hid h3
  clear e1 e2 e3 h1 h2 h3 hm
  go_enter Try.func18, Try.ntmps18
  go_upto_region 1 with fail
  generalize (w.alloc (.cells m.m.arr 49)) = W0 at HB HM ⊢
  have k1 : W0.cell? ⟨w.heap.size, 12, none⟩ = some (.slice m.m.vp.a n1 m.m.vp.c) := by rw [H1.out]; exact HM.out.cell (m := m.m) (j := 12) rfl
  have k2 : W0.cell? ⟨w.heap.size, 17, none⟩ = some (.slice m.m.xp.a n2 m.m.xp.c) := by rw [H2.out]; exact HM.out.cell (m := m.m) (j := 17) rfl
  have k3 : W0.cell? ⟨w.heap.size, 19, none⟩ = some (.slice m.m.fp.a n3 m.m.fp.c) := by rw [H3.out]; exact HM.out.cell (m := m.m) (j := 19) rfl
  by_cases c1 : n1 ≤ 100
  · have c1i : (n1 : Int) ≤ 100 := by omega
    by_cases c2 : n2 ≤ 100
    · have c2i : (n2 : Int) ≤ 100 := by omega
      by_cases c3 : n3 ≤ 100
      · have c3i : (n3 : Int) ≤ 100 := by omega
        have HR : Hid (fitsM m = true) := hid (by rw [HE.out]; simp [c1, c2, c3])
        clear c1 c2 c3
        go_wp2_with fail
        go_ret
        exact ⟨ret_bool HR.out.symm, HB.out⟩
      · have c3i : ¬ (n3 : Int) ≤ 100 := by omega
        have HR : Hid (fitsM m = false) := hid (by rw [HE.out]; simp [c3])
        clear c1 c2 c3
        go_wp2_with fail
        go_ret
        exact ⟨ret_bool HR.out.symm, HB.out⟩
    · have c2i : ¬ (n2 : Int) ≤ 100 := by omega
      have HR : Hid (fitsM m = false) := hid (by rw [HE.out]; simp [c2])
      clear c1 c2
      go_wp2_with fail
      go_ret
      exact ⟨ret_bool HR.out.symm, HB.out⟩
  · have c1i : ¬ (n1 : Int) ≤ 100 := by omega
    have HR : Hid (fitsM m = false) := hid (by rw [HE.out]; simp [c1])
    clear c1
    go_wp2_with fail
    go_ret
    exact ⟨ret_bool HR.out.symm, HB.out⟩
end Go.Proofs.Ytbcmhnaiabifjaa
