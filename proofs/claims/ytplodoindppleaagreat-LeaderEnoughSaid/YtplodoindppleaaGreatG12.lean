import Derived.Test.YtplodoindppleaaGreatG10
import Derived.Test.YtplodoindppleaaGreatG11
import Derived.Test.YtplodoindppleaaGreatG03
namespace Go.Proofs.YtplodoindppleaaGreat
set_option linter.unusedVariables false
open Go.RowKit
open Go.Lib (hid)
theorem grownBy_refl (w : World) (row : Option Nat) : w.grownBy w row := ⟨rfl, rfl, rfl, Nat.le_refl _, fun _ _ _ => rfl⟩
theorem append_sl {w : World} {ops : Array Oper} {rest : List Oper} {o : Oper} {a : Act} {Q : Exit → Act → World → Prop} (hgd : o.guard = none) (s x : Operand)
 (ho : o.op = .call { callee := .builtin .append, args := #[s, x], argTypes := #[32, 32] })
 {B : Nat} {v vx : Value} {n : Nat} {xs ys : List C7} (hs : a.eval s = v) (hn : n = xs.length) (hown : w.ownsRow B 42 7 v n (flat xs)) (hx : a.eval x = vx) (hsl : Sl w vx ys) (hl : xs.length + ys.length ≤ 1000000) (hbase : B ≤ w.heap.size)
 (h : ∀ v' w', Own w' B v' (xs ++ ys) → w.grownBy w' v.ownBlock → wpList Tryz.prog ops Q rest (a.put o.dst v') w') : wpList Tryz.prog ops Q (o :: rest) a w := by
 obtain ⟨i0, hi, hz0, hz1, hz2⟩ := info_parts Tryz.infoC
 subst hn
 rcases hsl.src with ⟨rfl, rfl⟩ | ⟨ad, cap, rfl, hc, _⟩
 · refine wpList_append_own_none hgd s x 32 ho B 42 i0 7 Tryz.underlying32 hi v xs.length (flat xs) hs hown hx (h v w ?_ (grownBy_refl _ _))
   rw [List.append_nil]; exact hown
 · refine wpList_append_own w hgd s x 32 ho B 42 i0 _ 7 56 Tryz.underlying32 hi hz0 hz1 hz2 rfl (by decide) v xs.length (flat xs) hs hown ad ys.length cap (flat ys) hx (flat_len ys) hc (flat_one ys) ?_ ?_ hbase fun v' w' h1 h2 _ => h v' w' ?_ h2
   · unfold maxLen; omega
   · omega
   · unfold Own; rw [flat_append, List.length_append]; exact h1
end Go.Proofs.YtplodoindppleaaGreat
namespace Go.Proofs.YtplodoindppleaaGreat
set_option linter.unusedVariables false
open Go.RowKit
open Go.Lib (hid)
theorem roomZ (w : World) : RoomM (w.alloc zeroMc) w.heap.size := ⟨_, heap_alloc_new w _, rfl⟩
abbrev zeroVc : Obj := .cells #[.int .i64 0, .slice none 0 0] 34
def vcs (t : Int) (p : Sv) : List Value := [.int .i64 t, .slice p.a p.n p.c]
def varr (t : Int) (p : Sv) : Array Value := #[.int .i64 t, .slice p.a p.n p.c]
theorem varr_list (t : Int) (p : Sv) : (varr t p).toList = vcs t p := rfl
theorem infoVl (t : Int) (p : Sv) : (Tryz.prog.info? 34).map (·.size) = some (vcs t p).length := by show _ = some 2; kernel_rfl
theorem infoVl' (t : Int) (p : Sv) : (Tryz.prog.info? 34).map (·.size) = some (varr t p).size := by show _ = some 2; kernel_rfl
theorem varr_one (t : Int) (p : Sv) : (varr t p).all (·.oneCell') = true := by
 have h : ∀ u ∈ vcs t p, u.oneCell' = true := fun v hv => by
  unfold vcs at hv; simp at hv; rcases hv with h | h <;> subst h <;> rfl
 exact all_oneCell_toArray h
abbrev OV (w : World) (q : Nat) (t : Int) (p : Sv) : Prop := w.heap[q]? = some (.cells (varr t p) 34 (0, 0))
theorem OV.range {w : World} {q : Nat} {t : Int} {p : Sv} (h : OV w q t p) : w.rangeAt q 0 (vcs t p) := fun j v hv => by
 rw [Nat.zero_add, cellAt' h, ← Array.getElem?_toList]; exact hv
theorem OV.on {w w' : World} {q : Nat} {t : Int} {p : Sv} (h : OV w q t p) (hb : Below w.heap.size w w') : OV w' q t p := heapB h hb (Array.getElem?_eq_some_iff.1 h).1
def RoomV (w : World) (q : Nat) : Prop := ∃ C : Array Value, w.heap[q]? = some (.cells C 34 (0, 0)) ∧ C.size = 2
theorem OV.room {w : World} {q : Nat} {t : Int} {p : Sv} (h : OV w q t p) : RoomV w q := ⟨_, h, rfl⟩
theorem roomVZ (w : World) : RoomV (w.alloc zeroVc) w.heap.size := ⟨_, heap_alloc_new w _, rfl⟩
theorem RoomV.on {w w' : World} {q : Nat} (h : RoomV w q) (hb : Below w.heap.size w w') : RoomV w' q := by
 obtain ⟨C, h1, h2⟩ := h
 exact ⟨C, heapB h1 hb (Array.getElem?_eq_some_iff.1 h1).1, h2⟩
theorem RoomV.lt {w : World} {q : Nat} (h : RoomV w q) : q < w.heap.size := by
 obtain ⟨C, h1, h2⟩ := h
 exact (Array.getElem?_eq_some_iff.1 h1).1
theorem setsOV {w : World} {q : Nat} {C : Array Value} (t : Int) (p : Sv) (h : w.heap[q]? = some (.cells C 34 (0, 0))) (hs : C.size = 2) : OV (w.setCells q 0 (varr t p).toList) q t p := by
 obtain ⟨C', h1, h2, _, h4⟩ := setsAll (varr t p).toList 0 C w h
 have : C' = varr t p := by
  apply Array.ext_getElem?
  intro j
  by_cases hj : j < 2
  · have := h4 j (by rw [varr_list]; exact hj) (by omega)
    rw [Nat.zero_add] at this
    rw [this]; simp
  · rw [Array.getElem?_eq_none (by omega), Array.getElem?_eq_none (by show 2 ≤ j; omega)]
 subst this
 exact h1
theorem storeV {ops : Array Oper} {rest : List Oper} {op : Oper} {c : Act} {w : World} {Q : Exit → Act → World → Prop} {x y : Operand} {b : Nat} (t : Int) (p : Sv) (hgd : op.guard = none) (ho : op.op = .store 34 x y)
 (hx : c.eval x = .pointer (some ⟨b, 0, none⟩)) (hy : c.eval y = .agg (varr t p)) (hC : RoomV w b) (h : ∀ W, OV W b t p → Upd b w W → wpList Tryz.prog ops Q rest (c.put op.dst undef) W) : wpList Tryz.prog ops Q (op :: rest) c w := by
 obtain ⟨C, hC, hs⟩ := hC
 exact wpList_store_mid hgd 34 x y ho b 0 (varr t p) hx hy (thereOf hC (by rw [hs]; exact Nat.le_refl _)) (infoVl' t p) (varr_one t p) (h _ (setsOV t p hC hs) (setsUpd w b _))
theorem loadVl {ops : Array Oper} {rest : List Oper} {op : Oper} {c : Act} {w : World} {Q : Exit → Act → World → Prop} {x : Operand} {b o : Nat} (t : Int) (p : Sv) (hgd : op.guard = none) (ho : op.op = .load 34 x)
 (hx : c.eval x = .pointer (some ⟨b, o, none⟩)) (hc : w.rangeAt b o (vcs t p)) (h : wpList Tryz.prog ops Q rest (c.put op.dst (.agg (varr t p))) w) : wpList Tryz.prog ops Q (op :: rest) c w :=
 wpList_load_mid hgd 34 x ho b o hx (vcs t p) _ hc Tryz.underlying34 rfl (infoVl t p) h
theorem OM.vV {w : World} {q : Nat} {m : Mg} (h : OM w q m) : w.rangeAt q 11 (vcs m.vt m.vp) := fun i u hu => by
 rcases i with _ | _ | i
 · obtain rfl := Option.some.inj hu; exact h.cell (m := m) (j := 11) rfl
 · obtain rfl := Option.some.inj hu; exact h.cell (m := m) (j := 12) rfl
 · simp [vcs] at hu
theorem OM.aV {w : World} {q : Nat} {m : Mg} (h : OM w q m) : w.rangeAt q 16 (vcs m.xt m.xp) := fun i u hu => by
 rcases i with _ | _ | i
 · obtain rfl := Option.some.inj hu; exact h.cell (m := m) (j := 16) rfl
 · obtain rfl := Option.some.inj hu; exact h.cell (m := m) (j := 17) rfl
 · simp [vcs] at hu
theorem OM.fV {w : World} {q : Nat} {m : Mg} (h : OM w q m) : w.rangeAt q 18 (vcs m.ft m.fp) := fun i u hu => by
 rcases i with _ | _ | i
 · obtain rfl := Option.some.inj hu; exact h.cell (m := m) (j := 18) rfl
 · obtain rfl := Option.some.inj hu; exact h.cell (m := m) (j := 19) rfl
 · simp [vcs] at hu
theorem Upd.tch {q : Nat} {w W : World} (h : Upd q w W) : Tch (fun k => k = q) w W := ⟨(h.below 0 (Nat.zero_le _)).os, (h.below 0 (Nat.zero_le _)).tape, (h.below 0 (Nat.zero_le _)).output, Nat.le_of_eq h.size.symm, fun i hi hn => h.other i hi hn⟩
theorem RoomV.no {w : World} {q : Nat} (h : RoomV w q) : ∀ k, k = q → ∀ i, 6 ≤ i → w.cell? ⟨k, i, none⟩ = none := by
 rintro k rfl i hi
 obtain ⟨C, h1, h2⟩ := h
 rw [cellAt' h1, Array.getElem?_eq_none (by omega)]
theorem Sl.updV {w W : World} {q : Nat} {v : Value} {cs : List C7} (h : Sl w v cs) (hr : RoomV w q) (hu : Upd q w W) : Sl W v cs := h.tch hu.tch hr.no
inductive FoundP (f : Option Ms) (g : Ms → Int × Sv) : Ending → Prop
 | hit (m : Ms) : f = some m → FoundP f g (.returned (.tuple #[.agg (varr (g m).1 (g m).2), .bool true]))
 | miss : f = none → FoundP f g (.returned (.tuple #[.agg (varr 0 zS), .bool false]))
def SetD (w : World) (v : Value) (cs : List C7) : Prop := Sl w v cs ∧ ∀ ad n c, v = .slice (some ad) n c → 0 < cs.length → ∃ cur fz, w.heap[ad.block]? = some (.cells cur 42 fz)
theorem Own.setD {B : Nat} {w : World} {v : Value} {cs : List C7} (h : Own w B v cs) : SetD w v cs := ⟨h.sl, fun ad n c e h0 => by
 rcases h.2 with ⟨rfl, h1⟩ | ⟨g, cap, cur, rfl, hb, hg, _⟩
 · cases e
 · injection e with e1 e2 e3
   cases e1
   exact ⟨cur, (0, 0), hg⟩⟩
theorem SetD.nil (w : World) : SetD w (.slice none 0 0) [] := ⟨⟨0, 0, 0, none, rfl, fun _ => rfl, fun h => absurd h (by simp), fun j c hc => by simp at hc, fun h => absurd h (by simp)⟩, fun ad n c e h0 => absurd h0 (by simp)⟩
theorem Sl.void {w w' : World} {v : Value} (h : Sl w v []) : Sl w' v [] := by
 obtain ⟨b, o, cap, a, rfl, h1, h2, h3, h4⟩ := h
 exact ⟨b, o, cap, a, rfl, h1, h2, fun j c hc => by simp at hc, fun h => absurd h (by simp)⟩
theorem SetD.tch {S : Nat → Prop} {w w' : World} {v : Value} {cs : List C7} (h : SetD w v cs) (ht : Tch S w w') (hS : ∀ k, S k → ∀ cur fz, w.heap[k]? ≠ some (.cells cur 42 fz)) : SetD w' v cs := by
 by_cases h0 : cs = []
 · subst h0
   exact ⟨h.1.void, fun ad n c e h0 => absurd h0 (by simp)⟩
 · have hpos : 0 < cs.length := List.length_pos_iff.2 h0
   obtain ⟨b, o, cap, a, rfl, hn, ha, hc, hb⟩ := h.1
   obtain rfl := ha hpos
   obtain ⟨cur, fz, h2⟩ := h.2 _ _ _ rfl hpos
   have hns : ¬ S b := fun hs => hS b hs cur fz h2
   refine ⟨⟨b, o, cap, _, rfl, hn, ha, fun j x hx i u hu => ?_, fun h => Nat.lt_of_lt_of_le (hb h) ht.size⟩, fun ad n c e h0' => ?_⟩
   · have := hc j x hx i u hu
     rw [World.cell?] at this ⊢
     rw [ht.block b (hb hpos) hns]; exact this
   · injection e with e1 e2 e3
     cases e1
     exact ⟨cur, fz, ht.ob h2 hns⟩
theorem SetD.on {w w' : World} {v : Value} {cs : List C7} (h : SetD w v cs) (hb : Below w.heap.size w w') : SetD w' v cs := h.tch (Tch.ofBelow (S := fun _ => False) hb) fun _ h => h.elim
theorem SetD.updV {w W : World} {q : Nat} {v : Value} {cs : List C7} (h : SetD w v cs) (hr : RoomV w q) (hu : Upd q w W) : SetD W v cs := h.tch hu.tch fun k e cur fz hk => by
 subst e
 obtain ⟨C, h1, _⟩ := hr
 rw [h1] at hk; injection hk with hk; injection hk with _ e; exact absurd e (by decide)
end Go.Proofs.YtplodoindppleaaGreat
namespace Go.Proofs.YtplodoindppleaaGreat
set_option linter.unusedVariables false
open Go.RowKit
open Go.Lib (hid)
theorem fold_cells : ∀ (l : List Value) (k off : Nat) (A : Array Value), ((l.zipIdx k).foldl (fun acc p => acc.setIfInBounds (off + p.2) p.1) A).size = A.size ∧
 ∀ j, ((l.zipIdx k).foldl (fun acc p => acc.setIfInBounds (off + p.2) p.1) A)[j]? = if off + k ≤ j ∧ j < off + k + l.length ∧ j < A.size then l[j - (off + k)]? else A[j]?
 | [], k, off, A => ⟨rfl, fun j => by
  rw [if_neg (by simp; omega)]; rfl⟩
 | c :: l, k, off, A => by
  rw [List.zipIdx_cons, List.foldl_cons]
  obtain ⟨h1, h2⟩ := fold_cells l (k + 1) off (A.setIfInBounds (off + k) c)
  refine ⟨h1.trans (by simp), fun j => ?_⟩
  rw [h2 j]
  simp only [Array.size_setIfInBounds, Array.getElem?_setIfInBounds, List.length_cons]
  by_cases hj : off + k = j
  · subst hj
    rw [if_neg (fun hh => absurd hh.1 (by omega))]
    by_cases hs : off + k < A.size
    · rw [if_pos rfl, if_pos hs, if_pos ⟨Nat.le_refl _, by omega, hs⟩]; simp
    · rw [if_pos rfl, if_neg hs, if_neg (fun hh => hs hh.2.2), Array.getElem?_eq_none (by omega)]
  · rw [if_neg hj]
    by_cases hin : off + (k + 1) ≤ j ∧ j < off + (k + 1) + l.length ∧ j < A.size
    · rw [if_pos hin, if_pos ⟨by omega, by omega, hin.2.2⟩, show j - (off + k) = (j - (off + (k + 1))) + 1 by omega]; rfl
    · rw [if_neg hin, if_neg (fun hh => hin ⟨by omega, by omega, hh.2.2⟩)]
theorem fill_all (cs A : Array Value) (h : A.size = cs.size) : cs.zipIdx.foldl (fun acc (p : Value × Nat) => acc.setIfInBounds (0 + p.2) p.1) A = cs := by
 rw [← Array.foldl_toList, Array.toList_zipIdx]
 obtain ⟨h1, h2⟩ := fold_cells cs.toList 0 0 A
 apply Array.ext_getElem?
 intro j
 rw [h2 j]
 by_cases hj : j < cs.size
 · rw [if_pos (by simp; omega)]; simp
 · rw [if_neg (by simp; omega), Array.getElem?_eq_none (by omega), Array.getElem?_eq_none (by omega)]
theorem run_bs1 {t T : TypeId} {z : Value} {cs : Array Value} {K : Nat} (ht : Tryz.prog.underlying t = some (.slice T)) (hs : ∀ w, (sizeOf T).run Tryz.prog w = .ok K w) (hz : ∀ w, (zeroValue T).run Tryz.prog w = .ok z w) (hK : cs.size = K) (h0 : K ≠ 0) (h1 : K ≤ 100) (w : World) :
 (Instr.buildSlice t 1 #[(0, .agg cs)]).run Tryz.prog w = .ok (.slice (some ⟨w.heap.size, 0, none⟩) 1 1) (w.alloc (.cells cs T)) := by
 subst hK
 have hf : Instr.fill (fun i => some (i * cs.size, cs.size)) ((Array.range (1 * cs.size)).map (z.cells[· % z.cells.size]!)) [(0, .agg cs)] = some cs := by
  unfold Instr.fill
  simp only [Nat.zero_mul, Value.cells]
  rw [if_neg (by simp)]
  unfold Instr.fill
  rw [fill_all _ _ (by simp)]
 unfold Instr.buildSlice
 simp only [Sem.run_bind, run_underlying ht, Result.andThen_ok, hs w]
 have e24 : (2 : Nat) ^ 24 = 16777216 := by simp
 rw [e24, if_neg (show ¬ (1 * cs.size > 16777216) by omega), if_neg (show ¬ 1 * cs.size = 0 by omega)]
 simp only [Sem.run_bind, hz w, Result.andThen_ok, Sem.run_pure]
 rw [hf]
 simp only [Sem.run_bind, Sem.run_pure]
 rfl
theorem wpList_bs1 {ops : Array Oper} {rest : List Oper} {op : Oper} {a : Act} {w : World} {Q : Exit → Act → World → Prop} {x : Operand} {t T : TypeId} {z : Value} {K : Nat} (cs : Array Value) (hgd : op.guard = none) (ho : op.op = .buildSlice t 1 #[(0, x)]) (hx : a.eval x = .agg cs)
 (ht : Tryz.prog.underlying t = some (.slice T)) (hs : ∀ w, (sizeOf T).run Tryz.prog w = .ok K w) (hz : ∀ w, (zeroValue T).run Tryz.prog w = .ok z w) (hK : cs.size = K) (h0 : K ≠ 0) (h1 : K ≤ 100)
 (h : ∀ W, W.heap[w.heap.size]? = some (.cells cs T (0, 0)) → Below w.heap.size w W → W = w.alloc (.cells cs T) → wpList Tryz.prog ops Q rest (a.put op.dst (.slice (some ⟨w.heap.size, 0, none⟩) 1 1)) W) : wpList Tryz.prog ops Q (op :: rest) a w := by
 refine wpList_plain hgd fun _ hK' => ?_
 unfold Oper.wp execOp
 simp only [ho, List.map_toArray, List.map_cons, List.map_nil, hx, Sem.run_bind, run_bs1 ht hs hz hK h0 h1 w, Result.andThen_ok]
 exact hK' _ _ (h _ (heap_alloc_new w _) ((Below.refl _ w).alloc (Nat.le_refl _) _) rfl)
end Go.Proofs.YtplodoindppleaaGreat
namespace Go.Proofs.YtplodoindppleaaGreat
set_option linter.unusedVariables false
open Go.RowKit
open Go.Lib (hid)
open Go.Deep (blk_setCell_other nblk_setCell)
section
variable {P : Program} {md : Region.Mode} {S : World → Prop} {ops : Array Oper} {i : Nat} {o : Oper} {rs : List Nat} {fuel : Nat} {listed listed' : Array Bool} {a a' : Act} {w : World} {Q : Exit → Act → World → Prop}
theorem rh_takeS {v : Value} (hi : ops[i]? = some o) (hs : Region.noSelect ops = true) (hf : Region.free md ops listed i = true) (hr : (Region.ready md ops listed).contains i = true)
 (hQ : ∀ c a w, Q (.panic c) (a.put o.dst v) w → Q (.panic c) a w) (hl : listed.setIfInBounds i true = listed') (hw : Region.wanted o (yielded ops a.tmps) = true) (hv : ∀ w, S w → (execOp a.eval o).run P w = .ok (.value v) w) (ha : a.put o.dst v = a') (hS : S w) (h : wpAnyH P md ops Q S fuel listed' a' w) : wpAnyH P md ops Q S (fuel + 1) listed a w := by
 subst hl ha
 exact wpAnyH_take hi hs hf hr hQ (.inl ⟨hw, hv⟩) hS h
end
theorem rh_consW {P : Program} {md : Region.Mode} {S : World → Prop} {ops : Array Oper} {i : Nat} {o : Oper} {rs : List Nat} {fuel : Nat} {listed listed' : Array Bool} {a : Act} {w : World} {Q : Exit → Act → World → Prop}
 (hi : ops[i]? = some o) (hl : listed.setIfInBounds i true = listed') (hg : Region.wanted o (yielded ops a.tmps) = true) (h : ∀ K' : Act → World → Prop, Shut (∀ a w, S w → wpAnyH P md ops Q S fuel listed' a w → K' a w) → Oper.wp P o a w K' Q) (hs : AllReadyH P md ops Q S fuel listed a w rs) : AllReadyH P md ops Q S fuel listed a w (i :: rs) := by
 subst hl
 refine AllReadyH.cons hi (fun K' hK => ?_) hs
 rw [if_pos hg]
 exact h K' (fun a w h1 h2 => hK.out a w h1 (fun _ => h2))
theorem rh_skip {P : Program} {md : Region.Mode} {S : World → Prop} {ops : Array Oper} {i : Nat} {o : Oper} {fuel : Nat} {listed listed' : Array Bool} {a a' : Act} {w : World} {Q : Exit → Act → World → Prop} (hi : ops[i]? = some o) (hs : Region.noSelect ops = true) (hf : Region.free md ops listed i = true) (hr : (Region.ready md ops listed).contains i = true)
 (hQ : ∀ c a w, Q (.panic c) (a.put o.dst undef) w → Q (.panic c) a w) (hl : listed.setIfInBounds i true = listed') (hw : Region.wanted o (yielded ops a.tmps) = false) (ha : a.put o.dst undef = a') (hS : S w) (h : wpAnyH P md ops Q S fuel listed' a' w) : wpAnyH P md ops Q S (fuel + 1) listed a w := by
 subst hl ha
 exact wpAnyH_take hi hs hf hr hQ (.inr ⟨hw, rfl⟩) hS h
theorem tkS {P : Program} {md : Region.Mode} {S : World → Prop} {ops : Array Oper} {fuel : Nat} {listed : Array Bool} {a : Act} {w : World} {Q : Exit → Act → World → Prop} (i : Nat) (o : Oper) (v : Value) (listed' : Array Bool) (a' : Act) (hi : ops[i]? = some o)
 (hQ : ∀ c a w, Q (.panic c) (a.put o.dst v) w → Q (.panic c) a w) (hl : listed.setIfInBounds i true = listed') (hw : Region.wanted o (yielded ops a.tmps) = true) (hv : ∀ w, S w → (execOp a.eval o).run P w = .ok (.value v) w) (ha : a.put o.dst v = a') (hS : S w) (h : wpAnyH P md ops Q S fuel listed' a' w)
 (hs : Region.noSelect ops = true := by kernel_rfl) (hf : Region.free md ops listed i = true := by kernel_rfl) (hr : (Region.ready md ops listed).contains i = true := by kernel_rfl) : wpAnyH P md ops Q S (fuel + 1) listed a w := rh_takeS hi hs hf hr hQ hl hw hv ha hS h
theorem tkK {P : Program} {md : Region.Mode} {S : World → Prop} {ops : Array Oper} {fuel : Nat} {listed : Array Bool} {a : Act} {w : World} {Q : Exit → Act → World → Prop} (i : Nat) (o : Oper) (listed' : Array Bool) (a' : Act) (hi : ops[i]? = some o)
 (hQ : ∀ c a w, Q (.panic c) (a.put o.dst undef) w → Q (.panic c) a w) (hl : listed.setIfInBounds i true = listed') (hw : Region.wanted o (yielded ops a.tmps) = false) (ha : a.put o.dst undef = a') (hS : S w) (h : wpAnyH P md ops Q S fuel listed' a' w)
 (hs : Region.noSelect ops = true := by kernel_rfl) (hf : Region.free md ops listed i = true := by kernel_rfl) (hr : (Region.ready md ops listed).contains i = true := by kernel_rfl) : wpAnyH P md ops Q S (fuel + 1) listed a w := rh_skip hi hs hf hr hQ hl hw ha hS h
theorem setsMid {q : Nat} {t : TypeId} : ∀ (vs : List Value) (o : Nat) (C : Array Value) (w : World), w.heap[q]? = some (.cells C t (0, 0)) →
 ∃ C', (w.setCells q o vs).heap[q]? = some (.cells C' t (0, 0)) ∧ C'.size = C.size ∧ (∀ j, j < o → C'[j]? = C[j]?) ∧ (∀ j, o + vs.length ≤ j → C'[j]? = C[j]?) ∧ ∀ j, j < vs.length → o + j < C.size → C'[o + j]? = vs[j]?
 | [], o, C, w, h => ⟨C, h, rfl, fun _ _ => rfl, fun _ _ => rfl, fun j hj => absurd hj (by simp)⟩
 | v :: vs, o, C, w, h => by
  obtain ⟨C', h1, h2, h3, h5, h4⟩ := setsMid vs (o + 1) _ (w.setCell ⟨q, o, none⟩ v) (setAt h)
  refine ⟨C', h1, h2.trans (by simp), fun j hj => ?_, fun j hj => ?_, fun j hj hs => ?_⟩
  · rw [h3 j (by omega), Array.getElem?_setIfInBounds]; simp; omega
  · rw [List.length_cons] at hj
    rw [h5 j (by omega), Array.getElem?_setIfInBounds]; simp; omega
  · cases j with
    | zero =>
     rw [Nat.add_zero, h3 o (by omega), Array.getElem?_setIfInBounds]
     simp; omega
    | succ j =>
     have := h4 j (by simp at hj; omega) (by simp; omega)
     rw [show o + (j + 1) = o + 1 + j by omega, this]; rfl
theorem setsUpd' (w : World) (q o : Nat) (vs : List Value) : Upd q w (w.setCells q o vs) := by
 refine ⟨?_, fun k hk hne => World.heap_setCells_other w q o vs hk hne, fun B hB => below_cells hB _ _ _ (Below.refl _ _)⟩
 have : ∀ (vs : List Value) (o : Nat) (w : World), (w.setCells q o vs).heap.size = w.heap.size := by
  intro vs
  induction vs with
  | nil => intro o w; rfl
  | cons v vs ih => intro o w; exact (ih (o + 1) _).trans (nblk_setCell w _ v)
 exact this vs o w
theorem thereAt {W : World} {q o n : Nat} {C : Array Value} {T : TypeId} (h : W.heap[q]? = some (.cells C T (0, 0))) (hn : o + n ≤ C.size) : W.there q o n := fun j hj => by
 refine ⟨?_, frozenAt h (o + j)⟩
 rw [cellAt' h, Array.getElem?_eq_getElem (by omega)]; rfl
theorem setsCmd {w : World} {q : Nat} {m : Mg} (h : OM w q m) (c : C7) : OM (w.setCells q 4 [.int .i64 c.i, .int .i64 c.k, .int .i64 c.s, .int .i64 c.t, .int .i64 c.d, .int .i64 c.p, .int .i64 c.q]) q { m with c := c } := by
 obtain ⟨C', h1, h2, h3, h5, h4⟩ := setsMid [.int .i64 c.i, .int .i64 c.k, .int .i64 c.s, .int .i64 c.t, .int .i64 c.d, .int .i64 c.p, .int .i64 c.q] 4 m.arr w h
 have : C' = ({ m with c := c } : Mg).arr := by
  apply Array.ext_getElem?
  intro j
  by_cases hj : j < 4
  · rw [h3 j hj]
    rcases (by omega : j = 0 ∨ j = 1 ∨ j = 2 ∨ j = 3) with rfl | rfl | rfl | rfl <;> rfl
  · by_cases hj2 : j < 11
    · have := h4 (j - 4) (by simp; omega) (by rw [Mg.size]; omega)
      rw [show 4 + (j - 4) = j by omega] at this
      rw [this]
      rcases (by omega : j = 4 ∨ j = 5 ∨ j = 6 ∨ j = 7 ∨ j = 8 ∨ j = 9 ∨ j = 10) with rfl | rfl | rfl | rfl | rfl | rfl | rfl <;> rfl
    · rw [h5 j (by simp; omega)]
      by_cases hj3 : j < 20
      · rcases (by omega : j = 11 ∨ j = 12 ∨ j = 13 ∨ j = 14 ∨ j = 15 ∨ j = 16 ∨ j = 17 ∨ j = 18 ∨ j = 19) with rfl | rfl | rfl | rfl | rfl | rfl | rfl | rfl | rfl <;> rfl
      · rw [Array.getElem?_eq_none (by rw [Mg.size]; omega), Array.getElem?_eq_none (by rw [Mg.size]; omega)]
 subst this
 exact h1
section
variable {md : Region.Mode} {S : World → Prop} {ops : Array Oper} {i : Nat} {o : Oper} {rs : List Nat} {fuel : Nat} {listed listed' : Array Bool} {a a' : Act} {w : World} {Q : Exit → Act → World → Prop}
theorem rh_storeMc {x y : Operand} {b : Nat} (m : Mg) (c : C7) (hi : ops[i]? = some o) (hl : listed.setIfInBounds i true = listed') (hg : o.guard = none) (ho : o.op = .store 42 x y)
 (hx : a.eval x = .pointer (some ⟨b, 4, none⟩)) (hy : a.eval y = .agg #[.int .i64 c.i, .int .i64 c.k, .int .i64 c.s, .int .i64 c.t, .int .i64 c.d, .int .i64 c.p, .int .i64 c.q]) (hd : o.dst = none) (hC : OM w b m) (h : ∀ W, OM W b { m with c := c } → Upd b w W → S W ∧ wpAnyH Tryz.prog md ops Q S fuel listed' a W) (hs : AllReadyH Tryz.prog md ops Q S fuel listed a w rs) : AllReadyH Tryz.prog md ops Q S fuel listed a w (i :: rs) := by
 refine rh_cons hi hl hg (fun K hK => ?_) hs
 refine wp_store_mid 42 x y ho b 4 _ hx hy (thereAt hC (by rw [Mg.size]; show 4 + 7 ≤ 20; decide)) (show (Tryz.prog.info? 42).map (·.size) = some 7 by kernel_rfl) (all_oneCell_toArray (cs := [.int .i64 c.i, .int .i64 c.k, .int .i64 c.s, .int .i64 c.t, .int .i64 c.d, .int .i64 c.p, .int .i64 c.q]) fun v hv => by simp only [List.mem_cons, List.not_mem_nil, or_false] at hv; rcases hv with h | h | h | h | h | h | h <;> subst h <;> rfl) ?_
 rw [hd]
 obtain ⟨h1, h2⟩ := h _ (setsCmd hC c) (setsUpd' w b 4 _)
 exact hK.out _ _ h1 h2
theorem rh_storeMi {x y : Operand} {b j : Nat} (m m' : Mg) (v : Int) (hi : ops[i]? = some o) (hl : listed.setIfInBounds i true = listed') (hg : o.guard = none) (ho : o.op = .store 3 x y)
 (hx : a.eval x = .pointer (some ⟨b, j, none⟩)) (hy : a.eval y = .int .i64 v) (hd : o.dst = none) (hC : OM w b m) (hj : j < 20) (he : m.arr.setIfInBounds j (.int .i64 v) = m'.arr) (h : ∀ W, OM W b m' → Upd b w W → S W ∧ wpAnyH Tryz.prog md ops Q S fuel listed' a W) (hs : AllReadyH Tryz.prog md ops Q S fuel listed a w rs) : AllReadyH Tryz.prog md ops Q S fuel listed a w (i :: rs) := by
 refine rh_cons hi hl hg (fun K hK => ?_) hs
 obtain ⟨h1, h2⟩ := h _ (hC.set he) (setsUpd' w b j [.int .i64 v])
 have hr := hK.out _ _ h1 h2
 have hc : w.cell? ⟨b, j, none⟩ = some (m.arr[j]'(by rw [Mg.size]; exact hj)) := (cellAt' hC j).trans (Array.getElem?_eq_getElem _)
 have hf := frozenAt hC j
 unfold Oper.wp execOp
 simp only [ho, hx, hy]
 have hr2 : K a (w.setCell ⟨b, j, none⟩ (.int .i64 v)) := hr
 go_simp
 exact hr2
end
theorem wpList_bsM {ops : Array Oper} {rest : List Oper} {op : Oper} {a : Act} {w : World} {Q : Exit → Act → World → Prop} {x : Operand} (m : Mg) (hgd : op.guard = none) (ho : op.op = .buildSlice 37 1 #[(0, x)]) (hx : a.eval x = .agg m.arr)
 (h : ∀ W, OM W w.heap.size m → Below w.heap.size w W → W = w.alloc (.cells m.arr 48) → wpList Tryz.prog ops Q rest (a.put op.dst (.slice (some ⟨w.heap.size, 0, none⟩) 1 1)) W) : wpList Tryz.prog ops Q (op :: rest) a w :=
 wpList_bs1 m.arr hgd ho hx Tryz.underlying37 Tryz.sizeOf48 Tryz.zeroValue48 (Mg.size m) (by decide) (by decide) h
theorem OM.sl {w : World} {q : Nat} {m : Mg} (h : OM w q m) (cap : Nat) : SlM w (.slice (some ⟨q, 0, none⟩) 1 cap) [m] := ⟨q, 0, cap, _, rfl, fun _ => rfl, fun j y hy => by
 rcases j with _ | j
 · rw [List.getElem?_cons_zero] at hy
   obtain rfl := Option.some.inj hy
   simpa using OM.range h
 · simp at hy, fun _ => (Array.getElem?_eq_some_iff.1 h).1⟩
theorem laidM (w : World) (m a : Mg) : OM ((w.alloc (.cells m.arr 48)).alloc (.cells a.arr 48)) w.heap.size m ∧ OM ((w.alloc (.cells m.arr 48)).alloc (.cells a.arr 48)) (w.heap.size + 1) a := ⟨laid2_0 w _ _, laid2_1 w _ _⟩
theorem setsN {w : World} {q : Nat} {T : TypeId} {C : Array Value} (cs : Array Value) (h : w.heap[q]? = some (.cells C T (0, 0))) (hs : C.size = cs.size) : (w.setCells q 0 cs.toList).heap[q]? = some (.cells cs T (0, 0)) := by
 obtain ⟨C', h1, h2, _, h4⟩ := setsAll cs.toList 0 C w h
 have : C' = cs := by
  apply Array.ext_getElem?
  intro j
  by_cases hj : j < cs.size
  · have := h4 j (by simpa using hj) (by omega)
    rw [Nat.zero_add] at this
    rw [this]; simp
  · rw [Array.getElem?_eq_none (by omega), Array.getElem?_eq_none (by omega)]
 subst this
 exact h1
theorem rh_storeN {md : Region.Mode} {S : World → Prop} {ops : Array Oper} {i : Nat} {o : Oper} {rs : List Nat} {fuel : Nat} {listed listed' : Array Bool} {a : Act} {w : World} {Q : Exit → Act → World → Prop} {x y : Operand} {b : Nat} {T : TypeId} (cs : Array Value) (hT : (Tryz.prog.info? T).map (·.size) = some cs.size) (h1 : cs.all (·.oneCell') = true) (hi : ops[i]? = some o) (hl : listed.setIfInBounds i true = listed') (hg : o.guard = none) (ho : o.op = .store T x y)
 (hx : a.eval x = .pointer (some ⟨b, 0, none⟩)) (hy : a.eval y = .agg cs) (hd : o.dst = none) {C : Array Value} (hC : w.heap[b]? = some (.cells C T (0, 0))) (hsz : C.size = cs.size) (h : ∀ W, W.heap[b]? = some (.cells cs T (0, 0)) → Upd b w W → S W ∧ wpAnyH Tryz.prog md ops Q S fuel listed' a W) (hs : AllReadyH Tryz.prog md ops Q S fuel listed a w rs) : AllReadyH Tryz.prog md ops Q S fuel listed a w (i :: rs) := by
 refine rh_cons hi hl hg (fun K hK => ?_) hs
 refine wp_store_mid T x y ho b 0 _ hx hy (thereAt hC (by rw [hsz]; omega)) hT h1 ?_
 rw [hd]
 obtain ⟨h1, h2⟩ := h _ (setsN cs hC hsz) (setsUpd' w b 0 _)
 exact hK.out _ _ h1 h2
end Go.Proofs.YtplodoindppleaaGreat
