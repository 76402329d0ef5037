import Derived.Test.YtbcmhnaiabifjaaG04
import Derived.Test.YtbcmhnaiabifjaaG11
namespace Go.Proofs.Ytbcmhnaiabifjaa
set_option linter.unusedVariables false
open Go.RowKit
open Go.Lib (hid)
theorem fold_cells : ∀ (l : List Value) (k off : Nat) (A : Array Value), ((l.zipIdx k).foldl (fun acc p => acc.setIfInBounds (off + p.2) p.1) A).size = A.size ∧
    ∀ j, ((l.zipIdx k).foldl (fun acc p => acc.setIfInBounds (off + p.2) p.1) A)[j]? = if off + k ≤ j ∧ j < off + k + l.length ∧ j < A.size then l[j - (off + k)]? else A[j]?
  | [], k, off, A => ⟨rfl, fun j => by
    rw [if_neg (by simp; omega)]; rfl⟩
  | c :: l, k, off, A => by
    rw [List.zipIdx_cons, List.foldl_cons]
    obtain ⟨h1, h2⟩ := fold_cells l (k + 1) off (A.setIfInBounds (off + k) c)
    refine ⟨h1.trans (by simp), fun j => ?_⟩
    rw [h2 j]
    simp only [Array.size_setIfInBounds, Array.getElem?_setIfInBounds, List.length_cons]
    by_cases hj : off + k = j
    · subst hj
      rw [if_neg (fun hh => absurd hh.1 (by omega))]
      by_cases hs : off + k < A.size
      · rw [if_pos rfl, if_pos hs, if_pos ⟨Nat.le_refl _, by omega, hs⟩]; simp
      · rw [if_pos rfl, if_neg hs, if_neg (fun hh => hs hh.2.2), Array.getElem?_eq_none (by omega)]
    · rw [if_neg hj]
      by_cases hin : off + (k + 1) ≤ j ∧ j < off + (k + 1) + l.length ∧ j < A.size
      · rw [if_pos hin, if_pos ⟨by omega, by omega, hin.2.2⟩, show j - (off + k) = (j - (off + (k + 1))) + 1 by omega]; rfl
      · rw [if_neg hin, if_neg (fun hh => hin ⟨by omega, by omega, hh.2.2⟩)]
theorem fill_all (cs A : Array Value) (h : A.size = cs.size) : cs.zipIdx.foldl (fun acc (p : Value × Nat) => acc.setIfInBounds (0 + p.2) p.1) A = cs := by
  rw [← Array.foldl_toList, Array.toList_zipIdx]
  obtain ⟨h1, h2⟩ := fold_cells cs.toList 0 0 A
  apply Array.ext_getElem?
  intro j
  rw [h2 j]
  by_cases hj : j < cs.size
  · rw [if_pos (by simp; omega)]; simp
  · rw [if_neg (by simp; omega), Array.getElem?_eq_none (by omega), Array.getElem?_eq_none (by omega)]
theorem run_bs1 {t T : TypeId} {z : Value} {cs : Array Value} {K : Nat} (ht : Try.prog.underlying t = some (.slice T)) (hs : ∀ w, (sizeOf T).run Try.prog w = .ok K w) (hz : ∀ w, (zeroValue T).run Try.prog w = .ok z w) (hK : cs.size = K) (h0 : K ≠ 0) (h1 : K ≤ 100) (w : World) :
    (Instr.buildSlice t 1 #[(0, .agg cs)]).run Try.prog w = .ok (.slice (some ⟨w.heap.size, 0, none⟩) 1 1) (w.alloc (.cells cs T)) := by
  subst hK
  have hf : Instr.fill (fun i => some (i * cs.size, cs.size)) ((Array.range (1 * cs.size)).map (z.cells[· % z.cells.size]!)) [(0, .agg cs)] = some cs := by
    unfold Instr.fill
    simp only [Nat.zero_mul, Value.cells]
    rw [if_neg (by simp)]
    unfold Instr.fill
    rw [fill_all _ _ (by simp)]
  unfold Instr.buildSlice
  simp only [Sem.run_bind, run_underlying ht, Result.andThen_ok, hs w]
  have e24 : (2 : Nat) ^ 24 = 16777216 := by simp
  rw [e24, if_neg (show ¬ (1 * cs.size > 16777216) by omega), if_neg (show ¬ 1 * cs.size = 0 by omega)]
  simp only [Sem.run_bind, hz w, Result.andThen_ok, Sem.run_pure]
  rw [hf]
  simp only [Sem.run_bind, Sem.run_pure]
  rfl
theorem wpList_bs1 {ops : Array Oper} {rest : List Oper} {op : Oper} {a : Act} {w : World} {Q : Exit → Act → World → Prop} {x : Operand} {t T : TypeId} {z : Value} {K : Nat} (cs : Array Value) (hgd : op.guard = none) (ho : op.op = .buildSlice t 1 #[(0, x)]) (hx : a.eval x = .agg cs)
    (ht : Try.prog.underlying t = some (.slice T)) (hs : ∀ w, (sizeOf T).run Try.prog w = .ok K w) (hz : ∀ w, (zeroValue T).run Try.prog w = .ok z w) (hK : cs.size = K) (h0 : K ≠ 0) (h1 : K ≤ 100)
    (h : ∀ W, W.heap[w.heap.size]? = some (.cells cs T (0, 0)) → Below w.heap.size w W → W = w.alloc (.cells cs T) → wpList Try.prog ops Q rest (a.put op.dst (.slice (some ⟨w.heap.size, 0, none⟩) 1 1)) W) : wpList Try.prog ops Q (op :: rest) a w := by
  refine wpList_plain hgd fun _ hK' => ?_
  unfold Oper.wp execOp
  simp only [ho, List.map_toArray, List.map_cons, List.map_nil, hx, Sem.run_bind, run_bs1 ht hs hz hK h0 h1 w, Result.andThen_ok]
  exact hK' _ _ (h _ (heap_alloc_new w _) ((Below.refl _ w).alloc (Nat.le_refl _) _) rfl)
end Go.Proofs.Ytbcmhnaiabifjaa
namespace Go.Proofs.Ytbcmhnaiabifjaa
set_option linter.unusedVariables false
open Go.RowKit
open Go.Lib (hid)
open Go.Deep (blk_setCell_other nblk_setCell)
section
variable {P : Program} {md : Region.Mode} {S : World → Prop} {ops : Array Oper} {i : Nat} {o : Oper} {rs : List Nat} {fuel : Nat} {listed listed' : Array Bool} {a a' : Act} {w : World} {Q : Exit → Act → World → Prop}
theorem rh_takeS {v : Value} (hi : ops[i]? = some o) (hs : Region.noSelect ops = true) (hf : Region.free md ops listed i = true) (hr : (Region.ready md ops listed).contains i = true)
    (hQ : ∀ c a w, Q (.panic c) (a.put o.dst v) w → Q (.panic c) a w) (hl : listed.setIfInBounds i true = listed') (hw : Region.wanted o (yielded ops a.tmps) = true) (hv : ∀ w, S w → (execOp a.eval o).run P w = .ok (.value v) w) (ha : a.put o.dst v = a') (hS : S w) (h : wpAnyH P md ops Q S fuel listed' a' w) : wpAnyH P md ops Q S (fuel + 1) listed a w := by
  subst hl ha
  exact wpAnyH_take hi hs hf hr hQ (.inl ⟨hw, hv⟩) hS h
end
theorem rh_skip {P : Program} {md : Region.Mode} {S : World → Prop} {ops : Array Oper} {i : Nat} {o : Oper} {fuel : Nat} {listed listed' : Array Bool} {a a' : Act} {w : World} {Q : Exit → Act → World → Prop} (hi : ops[i]? = some o) (hs : Region.noSelect ops = true) (hf : Region.free md ops listed i = true) (hr : (Region.ready md ops listed).contains i = true)
    (hQ : ∀ c a w, Q (.panic c) (a.put o.dst undef) w → Q (.panic c) a w) (hl : listed.setIfInBounds i true = listed') (hw : Region.wanted o (yielded ops a.tmps) = false) (ha : a.put o.dst undef = a') (hS : S w) (h : wpAnyH P md ops Q S fuel listed' a' w) : wpAnyH P md ops Q S (fuel + 1) listed a w := by
  subst hl ha
  exact wpAnyH_take hi hs hf hr hQ (.inr ⟨hw, rfl⟩) hS h
theorem setsMid {q : Nat} {t : TypeId} : ∀ (vs : List Value) (o : Nat) (C : Array Value) (w : World), w.heap[q]? = some (.cells C t (0, 0)) →
    ∃ C', (w.setCells q o vs).heap[q]? = some (.cells C' t (0, 0)) ∧ C'.size = C.size ∧ (∀ j, j < o → C'[j]? = C[j]?) ∧ (∀ j, o + vs.length ≤ j → C'[j]? = C[j]?) ∧ ∀ j, j < vs.length → o + j < C.size → C'[o + j]? = vs[j]?
  | [], o, C, w, h => ⟨C, h, rfl, fun _ _ => rfl, fun _ _ => rfl, fun j hj => absurd hj (by simp)⟩
  | v :: vs, o, C, w, h => by
    obtain ⟨C', h1, h2, h3, h5, h4⟩ := setsMid vs (o + 1) _ (w.setCell ⟨q, o, none⟩ v) (setAt h)
    refine ⟨C', h1, h2.trans (by simp), fun j hj => ?_, fun j hj => ?_, fun j hj hs => ?_⟩
    · rw [h3 j (by omega), Array.getElem?_setIfInBounds]; simp; omega
    · rw [List.length_cons] at hj
      rw [h5 j (by omega), Array.getElem?_setIfInBounds]; simp; omega
    · cases j with
      | zero =>
        rw [Nat.add_zero, h3 o (by omega), Array.getElem?_setIfInBounds]
        simp; omega
      | succ j =>
        have := h4 j (by simp at hj; omega) (by simp; omega)
        rw [show o + (j + 1) = o + 1 + j by omega, this]; rfl
theorem setsUpd' (w : World) (q o : Nat) (vs : List Value) : Upd q w (w.setCells q o vs) := by
  refine ⟨?_, fun k hk hne => World.heap_setCells_other w q o vs hk hne, fun B hB => below_cells hB _ _ _ (Below.refl _ _)⟩
  have : ∀ (vs : List Value) (o : Nat) (w : World), (w.setCells q o vs).heap.size = w.heap.size := by
    intro vs
    induction vs with
    | nil => intro o w; rfl
    | cons v vs ih => intro o w; exact (ih (o + 1) _).trans (nblk_setCell w _ v)
  exact this vs o w
theorem thereAt {W : World} {q o n : Nat} {C : Array Value} {T : TypeId} (h : W.heap[q]? = some (.cells C T (0, 0))) (hn : o + n ≤ C.size) : W.there q o n := fun j hj => by
  refine ⟨?_, frozenAt h (o + j)⟩
  rw [cellAt' h, Array.getElem?_eq_getElem (by omega)]; rfl
section
variable {md : Region.Mode} {S : World → Prop} {ops : Array Oper} {i : Nat} {o : Oper} {rs : List Nat} {fuel : Nat} {listed listed' : Array Bool} {a a' : Act} {w : World} {Q : Exit → Act → World → Prop}
end
theorem wpList_bsM {ops : Array Oper} {rest : List Oper} {op : Oper} {a : Act} {w : World} {Q : Exit → Act → World → Prop} {x : Operand} (m : Mg) (hgd : op.guard = none) (ho : op.op = .buildSlice 22 1 #[(0, x)]) (hx : a.eval x = .agg m.arr)
    (h : ∀ W, OM W w.heap.size m → Below w.heap.size w W → W = w.alloc (.cells m.arr 49) → wpList Try.prog ops Q rest (a.put op.dst (.slice (some ⟨w.heap.size, 0, none⟩) 1 1)) W) : wpList Try.prog ops Q (op :: rest) a w :=
  wpList_bs1 m.arr hgd ho hx Try.underlying22 Try.sizeOf49 Try.zeroValue49 (Mg.size m) (by decide) (by decide) h
theorem OM.sl {w : World} {q : Nat} {m : Mg} (h : OM w q m) (cap : Nat) : SlM w (.slice (some ⟨q, 0, none⟩) 1 cap) [m] := ⟨q, 0, cap, _, rfl, fun _ => rfl, fun j y hy => by
  rcases j with _ | j
  · rw [List.getElem?_cons_zero] at hy
    obtain rfl := Option.some.inj hy
    simpa using OM.range h
  · simp at hy, fun _ => (Array.getElem?_eq_some_iff.1 h).1⟩
theorem setsN {w : World} {q : Nat} {T : TypeId} {C : Array Value} (cs : Array Value) (h : w.heap[q]? = some (.cells C T (0, 0))) (hs : C.size = cs.size) : (w.setCells q 0 cs.toList).heap[q]? = some (.cells cs T (0, 0)) := by
  obtain ⟨C', h1, h2, _, h4⟩ := setsAll cs.toList 0 C w h
  have : C' = cs := by
    apply Array.ext_getElem?
    intro j
    by_cases hj : j < cs.size
    · have := h4 j (by simpa using hj) (by omega)
      rw [Nat.zero_add] at this
      rw [this]; simp
    · rw [Array.getElem?_eq_none (by omega), Array.getElem?_eq_none (by omega)]
  subst this
  exact h1
theorem rh_storeN {md : Region.Mode} {S : World → Prop} {ops : Array Oper} {i : Nat} {o : Oper} {rs : List Nat} {fuel : Nat} {listed listed' : Array Bool} {a : Act} {w : World} {Q : Exit → Act → World → Prop} {x y : Operand} {b : Nat} {T : TypeId} (cs : Array Value) (hT : (Try.prog.info? T).map (·.size) = some cs.size) (h1 : cs.all (·.oneCell') = true) (hi : ops[i]? = some o) (hl : listed.setIfInBounds i true = listed') (hg : o.guard = none) (ho : o.op = .store T x y)
    (hx : a.eval x = .pointer (some ⟨b, 0, none⟩)) (hy : a.eval y = .agg cs) (hd : o.dst = none) {C : Array Value} (hC : w.heap[b]? = some (.cells C T (0, 0))) (hsz : C.size = cs.size) (h : ∀ W, W.heap[b]? = some (.cells cs T (0, 0)) → Upd b w W → S W ∧ wpAnyH Try.prog md ops Q S fuel listed' a W) (hs : AllReadyH Try.prog md ops Q S fuel listed a w rs) : AllReadyH Try.prog md ops Q S fuel listed a w (i :: rs) := by
  refine rh_cons hi hl hg (fun K hK => ?_) hs
  refine wp_store_mid T x y ho b 0 _ hx hy (thereAt hC (by rw [hsz]; omega)) hT h1 ?_
  rw [hd]
  obtain ⟨h1, h2⟩ := h _ (setsN cs hC hsz) (setsUpd' w b 0 _)
  exact hK.out _ _ h1 h2
end Go.Proofs.Ytbcmhnaiabifjaa
