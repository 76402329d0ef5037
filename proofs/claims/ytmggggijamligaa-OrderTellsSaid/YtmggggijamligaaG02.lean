import Derived.Test.YtmggggijamligaaG01
import Derived.Deep.Heap
import Derived.Deep.Upon
import Derived.BigRegion
import Derived.WalkMore
import Derived.Lib.SliceRun
import Derived.ScopeJumps
import Derived.Test.YtmggggijamligaaRows
import Derived.WalkKit
import Derived.LoopTactic
import Derived.ProofKit
import Derived.Lib.Hide
import Derived.Laws.AppendOwn
import Derived.Laws.AppendOwnNone
import Derived.Laws.OwnMore
import Derived.OwnWalk
import Derived.Laws.BytesArg
import Derived.Laws.IdiomStrings
namespace Go.Proofs.Ytmggggijamligaa
set_option linter.unusedVariables false
open Go.RowKit
open Go.Lib (hid)
open Go.Deep (blk_setCell_other nblk_setCell)
abbrev Ob (w : World) (q : Nat) (T : TypeId) (e : Ev) : Prop := w.heap[q]? = some (.cells e.arr T (0, 0))
theorem setsAll {q : Nat} {t : TypeId} : ∀ (vs : List Value) (o : Nat) (C : Array Value) (w : World), w.heap[q]? = some (.cells C t (0, 0)) →
    ∃ C', (w.setCells q o vs).heap[q]? = some (.cells C' t (0, 0)) ∧ C'.size = C.size ∧ (∀ j, j < o → C'[j]? = C[j]?) ∧ ∀ j, j < vs.length → o + j < C.size → C'[o + j]? = vs[j]?
  | [], o, C, w, h => ⟨C, h, rfl, fun _ _ => rfl, fun j hj => absurd hj (by simp)⟩
  | v :: vs, o, C, w, h => by
    obtain ⟨C', h1, h2, h3, h4⟩ := setsAll vs (o + 1) _ (w.setCell ⟨q, o, none⟩ v) (setAt h)
    refine ⟨C', h1, h2.trans (by simp), fun j hj => ?_, fun j hj hs => ?_⟩
    · rw [h3 j (by omega), Array.getElem?_setIfInBounds]; simp; omega
    · cases j with
      | zero =>
        rw [Nat.add_zero, h3 o (by omega), Array.getElem?_setIfInBounds]
        simp; omega
      | succ j =>
        have := h4 j (by simp at hj; omega) (by simp; omega)
        rw [show o + (j + 1) = o + 1 + j by omega, this]; rfl
theorem setsOb {w : World} {q : Nat} {T : TypeId} {C : Array Value} (e : Ev) (h : w.heap[q]? = some (.cells C T (0, 0))) (hs : C.size = 19) : Ob (w.setCells q 0 e.arr.toList) q T e := by
  obtain ⟨C', h1, h2, _, h4⟩ := setsAll e.arr.toList 0 C w h
  have : C' = e.arr := by
    apply Array.ext_getElem?
    intro j
    by_cases hj : j < 19
    · have := h4 j (by rw [Ev.toList, Ev.len]; exact hj) (by omega)
      rw [Nat.zero_add] at this
      rw [this]; simp
    · rw [Array.getElem?_eq_none (by omega), Array.getElem?_eq_none (by rw [Ev.size]; omega)]
  subst this
  exact h1
structure Upd (q : Nat) (w W : World) : Prop where
  size : W.heap.size = w.heap.size
  other : ∀ k, k < w.heap.size → k ≠ q → W.heap[k]? = w.heap[k]?
  below : ∀ B, B ≤ q → Below B w W
theorem setsUpd (w : World) (q : Nat) (vs : List Value) : Upd q w (w.setCells q 0 vs) := by
  refine ⟨?_, fun k hk hne => World.heap_setCells_other w q 0 vs hk hne, fun B hB => below_cells hB _ _ _ (Below.refl _ _)⟩
  have : ∀ (vs : List Value) (o : Nat) (w : World), (w.setCells q o vs).heap.size = w.heap.size := by
    intro vs
    induction vs with
    | nil => intro o w; rfl
    | cons v vs ih => intro o w; exact (ih (o + 1) _).trans (nblk_setCell w _ v)
  exact this vs 0 w
theorem Upd.ob {q k : Nat} {w W : World} (h : Upd q w W) {o : Obj} (hk : w.heap[k]? = some o) (hne : k ≠ q) : W.heap[k]? = some o := (h.other k (Array.getElem?_eq_some_iff.1 hk).1 hne).trans hk
theorem Ob.range {w : World} {q : Nat} {T : TypeId} {e : Ev} (h : Ob w q T e) : w.rangeAt q 0 e.list := rangeOf h
theorem Ob.cell {w : World} {q : Nat} {T : TypeId} {e : Ev} (h : Ob w q T e) {j : Nat} {v : Value} (hv : e.list[j]? = some v) : w.cell? ⟨q, j, none⟩ = some v := by
  have := h.range j v hv; rwa [Nat.zero_add] at this
theorem Ob.free {w : World} {q : Nat} {T : TypeId} {e : Ev} (h : Ob w q T e) (j : Nat) : w.frozen? ⟨q, j, none⟩ = false := frozenAt h j
theorem Ob.set {w : World} {q j : Nat} {T : TypeId} {e e' : Ev} {v : Value} (h : Ob w q T e) (he : e.arr.setIfInBounds j v = e'.arr) : Ob (w.setCell ⟨q, j, none⟩ v) q T e' := by
  have := setAt (j := j) (x := v) h
  rwa [he] at this
def Room (w : World) (q : Nat) (T : TypeId) : Prop := ∃ C : Array Value, w.heap[q]? = some (.cells C T (0, 0)) ∧ C.size = 19
theorem Ob.room {w : World} {q : Nat} {T : TypeId} {e : Ev} (h : Ob w q T e) : Room w q T := ⟨_, h, e.size⟩
theorem storeR {ops : Array Oper} {rest : List Oper} {op : Oper} {a : Act} {w : World} {Q : Exit → Act → World → Prop} {x y : Operand} {b : Nat} {T : TypeId} (e : Ev) (hgd : op.guard = none) (ho : op.op = .store 39 x y)
    (hx : a.eval x = .pointer (some ⟨b, 0, none⟩)) (hy : a.eval y = .agg e.arr) (hC : Room w b T) (h : ∀ W, Ob W b T e → Upd b w W → wpList Try.prog ops Q rest (a.put op.dst undef) W) : wpList Try.prog ops Q (op :: rest) a w := by
  obtain ⟨C, hC, hs⟩ := hC
  exact wpList_store_mid hgd 39 x y ho b 0 e.arr hx hy (thereOf hC (by rw [hs]; exact Nat.le_refl _)) (infoE' e) (Ev.one e) (h _ (setsOb e hC hs) (setsUpd w b _))
theorem obAlloc {k : Nat} {o x : Obj} {W : World} (h : W.heap[k]? = some o) : (W.alloc x).heap[k]? = some o := (Below.heap_alloc _ _ _ (Array.getElem?_eq_some_iff.1 h).1).trans h
theorem belowDrew {B : Nat} {w W : World} (h : Below B w W) : Below B w W.drew := ⟨h.1, h.2, h.3, h.4, h.5⟩
theorem laid5_0 (w : World) (o0 o1 o2 o3 o4 : Obj) : (((((w.alloc o0).alloc o1).alloc o2).alloc o3).alloc o4).heap[w.heap.size]? = some o0 := by
  have h0 : (w.alloc o0).heap[w.heap.size]? = some o0 := (heap_alloc_new w o0)
  have ho1 : ((w.alloc o0).alloc o1).heap[w.heap.size]? = some o0 := (Below.heap_alloc _ _ _ (by simp; try omega)).trans h0
  have ho2 : (((w.alloc o0).alloc o1).alloc o2).heap[w.heap.size]? = some o0 := (Below.heap_alloc _ _ _ (by simp; try omega)).trans ho1
  have ho3 : ((((w.alloc o0).alloc o1).alloc o2).alloc o3).heap[w.heap.size]? = some o0 := (Below.heap_alloc _ _ _ (by simp; try omega)).trans ho2
  have ho4 : (((((w.alloc o0).alloc o1).alloc o2).alloc o3).alloc o4).heap[w.heap.size]? = some o0 := (Below.heap_alloc _ _ _ (by simp; try omega)).trans ho3
  exact ho4
theorem laid5_1 (w : World) (o0 o1 o2 o3 o4 : Obj) : (((((w.alloc o0).alloc o1).alloc o2).alloc o3).alloc o4).heap[w.heap.size + 1]? = some o1 := by
  have h1 : ((w.alloc o0).alloc o1).heap[w.heap.size + 1]? = some o1 := (by have := heap_alloc_new (w.alloc o0) o1; simpa [Nat.add_assoc] using this)
  have ho2 : (((w.alloc o0).alloc o1).alloc o2).heap[w.heap.size + 1]? = some o1 := (Below.heap_alloc _ _ _ (by simp; try omega)).trans h1
  have ho3 : ((((w.alloc o0).alloc o1).alloc o2).alloc o3).heap[w.heap.size + 1]? = some o1 := (Below.heap_alloc _ _ _ (by simp; try omega)).trans ho2
  have ho4 : (((((w.alloc o0).alloc o1).alloc o2).alloc o3).alloc o4).heap[w.heap.size + 1]? = some o1 := (Below.heap_alloc _ _ _ (by simp; try omega)).trans ho3
  exact ho4
theorem laid5_2 (w : World) (o0 o1 o2 o3 o4 : Obj) : (((((w.alloc o0).alloc o1).alloc o2).alloc o3).alloc o4).heap[w.heap.size + 2]? = some o2 := by
  have h2 : (((w.alloc o0).alloc o1).alloc o2).heap[w.heap.size + 2]? = some o2 := (by have := heap_alloc_new ((w.alloc o0).alloc o1) o2; simpa [Nat.add_assoc] using this)
  have ho3 : ((((w.alloc o0).alloc o1).alloc o2).alloc o3).heap[w.heap.size + 2]? = some o2 := (Below.heap_alloc _ _ _ (by simp; try omega)).trans h2
  have ho4 : (((((w.alloc o0).alloc o1).alloc o2).alloc o3).alloc o4).heap[w.heap.size + 2]? = some o2 := (Below.heap_alloc _ _ _ (by simp; try omega)).trans ho3
  exact ho4
theorem laid5_3 (w : World) (o0 o1 o2 o3 o4 : Obj) : (((((w.alloc o0).alloc o1).alloc o2).alloc o3).alloc o4).heap[w.heap.size + 3]? = some o3 := by
  have h3 : ((((w.alloc o0).alloc o1).alloc o2).alloc o3).heap[w.heap.size + 3]? = some o3 := (by have := heap_alloc_new (((w.alloc o0).alloc o1).alloc o2) o3; simpa [Nat.add_assoc] using this)
  have ho4 : (((((w.alloc o0).alloc o1).alloc o2).alloc o3).alloc o4).heap[w.heap.size + 3]? = some o3 := (Below.heap_alloc _ _ _ (by simp; try omega)).trans h3
  exact ho4
theorem laid5_4 (w : World) (o0 o1 o2 o3 o4 : Obj) : (((((w.alloc o0).alloc o1).alloc o2).alloc o3).alloc o4).heap[w.heap.size + 4]? = some o4 := by
  have h4 : (((((w.alloc o0).alloc o1).alloc o2).alloc o3).alloc o4).heap[w.heap.size + 4]? = some o4 := (by have := heap_alloc_new ((((w.alloc o0).alloc o1).alloc o2).alloc o3) o4; simpa [Nat.add_assoc] using this)
  exact h4
theorem laid5_b (w : World) (o0 o1 o2 o3 o4 : Obj) : Below w.heap.size w (((((w.alloc o0).alloc o1).alloc o2).alloc o3).alloc o4) := ((((((Below.refl w.heap.size w).alloc (Nat.le_refl _) o0).alloc (by simp; try omega) o1).alloc (by simp; try omega) o2).alloc (by simp; try omega) o3).alloc (by simp; try omega) o4)
end Go.Proofs.Ytmggggijamligaa
namespace Go.Proofs.Ytmggggijamligaa
set_option linter.unusedVariables false
open Go.RowKit
open Go.Lib (hid)
theorem OwnB.made (w : World) : OwnB (w.alloc (.cells #[] 5)) w.heap.size (.slice (Option.some ⟨w.heap.size, 0, none⟩) 0 0) [] :=
  World.ownsRow_made w #[] 0 (Nat.le_refl _) (by unfold maxLen; omega) rfl
end Go.Proofs.Ytmggggijamligaa
namespace Go.Proofs.Ytmggggijamligaa
set_option linter.unusedVariables false
open Go.RowKit
open Go.Lib (hid)
section
variable {α : Type}
def flatG (cl : α → List Value) (xs : List α) : List Value := xs.flatMap cl
theorem flatG_cons (cl : α → List Value) (x : α) (xs : List α) : flatG cl (x :: xs) = cl x ++ flatG cl xs := by simp [flatG]
theorem flatG_append (cl : α → List Value) (a b : List α) : flatG cl (a ++ b) = flatG cl a ++ flatG cl b := by simp [flatG]
theorem flatG_one (cl : α → List Value) (x : α) : flatG cl [x] = cl x := by simp [flatG]
theorem flatG_len {cl : α → List Value} {K : Nat} (hk : ∀ x, (cl x).length = K) : ∀ xs : List α, (flatG cl xs).length = xs.length * K
  | [] => by simp [flatG]
  | x :: xs => by rw [flatG_cons, List.length_append, hk, flatG_len hk xs, List.length_cons, Nat.add_mul]; omega
theorem flatG_at {cl : α → List Value} {K : Nat} (hk : ∀ x, (cl x).length = K) : ∀ (xs : List α) (j : Nat) (x : α), xs[j]? = some x → ∀ (f : Nat) v, (cl x)[f]? = some v → (flatG cl xs)[j * K + f]? = some v
  | [], j, x, h, _, _, _ => by simp at h
  | d :: xs, 0, x, h, f, v, hv => by
    simp at h; subst h
    have hf := (List.getElem?_eq_some_iff.1 hv).1
    rw [flatG_cons, Nat.zero_mul, Nat.zero_add, List.getElem?_append_left hf]; exact hv
  | d :: xs, j + 1, x, h, f, v, hv => by
    have := flatG_at hk xs j x (by simpa using h) f v hv
    have h7 : (cl d).length = K := hk d
    rw [flatG_cons, List.getElem?_append_right (by rw [h7, Nat.add_mul]; omega), h7, show (j + 1) * K + f - K = j * K + f by rw [Nat.add_mul]; omega]
    exact this
def RowsG (cl : α → List Value) (K : Nat) (w : World) (b o : Nat) (xs : List α) : Prop := ∀ (j : Nat) x, xs[j]? = some x → w.rangeAt b (o + j * K) (cl x)
def SlG (cl : α → List Value) (K : Nat) (w : World) (v : Value) (xs : List α) : Prop :=
  ∃ (b o cap : Nat) (a : Option Addr), v = .slice a xs.length cap ∧ (0 < xs.length → a = some ⟨b, o, none⟩) ∧ RowsG cl K w b o xs ∧ (0 < xs.length → b < w.heap.size)
theorem RowsG.on {cl : α → List Value} {K : Nat} {w w' : World} {b o B : Nat} {xs : List α} (h : RowsG cl K w b o xs) (hb : Below B w w') (hB : 0 < xs.length → b < B) : RowsG cl K w' b o xs := fun j x hx i v hv => by
  have h0 : 0 < xs.length := by have := (List.getElem?_eq_some_iff.1 hx).1; omega
  exact (hb.cell (p := ⟨b, _, none⟩) (hB h0)).trans (h j x hx i v hv)
theorem SlG.on {cl : α → List Value} {K : Nat} {w w' : World} {v : Value} {xs : List α} (h : SlG cl K w v xs) (hb : Below w.heap.size w w') : SlG cl K w' v xs := by
  obtain ⟨b, o, cap, a, rfl, ha, hr, hl⟩ := h
  exact ⟨b, o, cap, a, rfl, ha, hr.on hb hl, fun h0 => Nat.lt_of_lt_of_le (hl h0) hb.size⟩
theorem SlG.nil (cl : α → List Value) (K : Nat) (w : World) : SlG cl K w (.slice none 0 0) [] := ⟨0, 0, 0, none, rfl, fun h => absurd h (by simp), fun j x h => by simp at h, fun h => absurd h (by simp)⟩
abbrev OwnG (cl : α → List Value) (K : Nat) (T : TypeId) (w : World) (B : Nat) (v : Value) (xs : List α) : Prop := w.ownsRow B T K v xs.length (flatG cl xs)
theorem OwnG.nil (cl : α → List Value) (K : Nat) (T : TypeId) (w : World) (B : Nat) : OwnG cl K T w B (.slice none 0 0) [] := World.ownsRow_nil _ _ _ _
theorem addr_add (g j : Nat) : (⟨g, 0, none⟩ : Addr).add j = ⟨g, j, none⟩ := by unfold Addr.add; split <;> simp_all
theorem OwnG.slG {cl : α → List Value} {K : Nat} {T : TypeId} {w : World} {B : Nat} {v : Value} {xs : List α} (hk : ∀ x, (cl x).length = K) (h : OwnG cl K T w B v xs) : SlG cl K w v xs := by
  have hl := h.lt
  have hcl := fun g (hg : v.ownBlock = some g) => h.cells hg
  rcases h.2 with ⟨rfl, h0⟩ | ⟨g, cap, cur, rfl, hb, hg, hn, hm, hs, ht⟩
  · obtain rfl : xs = [] := List.length_eq_zero_iff.1 h0
    exact SlG.nil _ _ _
  · refine ⟨g, 0, cap, _, rfl, fun _ => rfl, fun j x hx f v hv => ?_, fun _ => (hl g rfl).2⟩
    have := hcl g rfl _ _ (flatG_at hk xs j x hx f v hv)
    rw [addr_add] at this
    rw [show 0 + j * K + f = j * K + f by omega]; exact this
theorem OwnG.asSlice {cl : α → List Value} {K : Nat} {T : TypeId} {w : World} {B : Nat} {v : Value} {xs : List α} (h : OwnG cl K T w B v xs) : ∃ (g : Option Addr) (cap n : Nat), v = .slice g n cap ∧ n = xs.length := by
  rcases h.2 with ⟨rfl, h0⟩ | ⟨g, cap, cur, rfl, _⟩
  · exact ⟨none, 0, 0, rfl, h0.symm⟩
  · exact ⟨_, cap, _, rfl, rfl⟩
theorem OwnG.on {cl : α → List Value} {K : Nat} {T : TypeId} {w w' : World} {B : Nat} {v : Value} {xs : List α} (h : OwnG cl K T w B v xs) (hb : Below w.heap.size w w') : OwnG cl K T w' B v xs := own_below h hb fun k hk => (h.lt k hk).2
theorem OwnG.mono {cl : α → List Value} {K : Nat} {T : TypeId} {w : World} {B B' : Nat} {v : Value} {xs : List α} (h : OwnG cl K T w B v xs) (hB : B' ≤ B) : OwnG cl K T w B' v xs := own_monoB h hB
theorem OwnG.grows {cl : α → List Value} {K : Nat} {T : TypeId} {w W0 w1 : World} {B n : Nat} {v v' : Value} {xs : List α} {x : α} (hB : Below B w W0) (hsz : B ≤ W0.heap.size) (hlt : ∀ k, v.ownBlock = some k → B ≤ k)
    (hown' : w1.ownsRow B T K v' n (flatG cl xs ++ cl x)) (hn : n = xs.length + 1) (hg : W0.grownBy w1 v.ownBlock) : OwnG cl K T w1 B v' (xs ++ [x]) ∧ Below B w w1 :=
  ⟨by unfold OwnG; rw [flatG_append, flatG_one, List.length_append, List.length_singleton, ← hn]; exact hown', hB.grown hg hsz hlt⟩
end
abbrev kE : ∀ e : Ev, e.list.length = 19 := Ev.len
theorem oneE (e : Ev) : ∀ u ∈ e.list, u.oneCell' = true := fun u hu => by
  have := Array.all_eq_true_iff_forall_mem.1 (Ev.one e) u
  exact this (by rw [← Array.mem_toList_iff, Ev.toList]; exact hu)
abbrev SlE (w : World) (v : Value) (es : List Ev) : Prop := SlG Ev.list 19 w v es
abbrev OwnR (w : World) (B : Nat) (v : Value) (es : List Ev) : Prop := OwnG Ev.list 19 39 w B v es
theorem Try.infoRz : (Try.prog.info? 39).map (fun i => (i.zero, i.size, i.bytes)) = some (some (.agg #[.int .i64 0, .int .i64 0, .int .i64 0, .int .i64 0, .int .i64 0, .int .i64 0, .int .i64 0, .int .i64 0, .int .i64 0, .int .i64 0, .int .i64 0, .slice none 0 0, .int .i64 0, .int .i64 0, .slice none 0 0, .bool false, .bool false, .int .i64 0, .slice none 0 0]), 19, 192) := by kernel_rfl
structure En where
  e : Ev
  f : List C7
  a : List C7
  v : List C7
def En.at (w : World) (x : En) : Prop := Sl w x.e.fp.v x.f ∧ Sl w x.e.xp.v x.a ∧ Sl w x.e.vp.v x.v
theorem En.at.on {w w' : World} {x : En} (h : x.at w) (hb : Below w.heap.size w w') : x.at w' := ⟨h.1.on hb, h.2.1.on hb, h.2.2.on hb⟩
abbrev En.id (x : En) : Int := x.e.c.i
def En.short (n : Nat) (x : En) : Prop := x.f.length ≤ n ∧ x.a.length ≤ n ∧ x.v.length ≤ n
def En.ct (x : En) : Ev × List C7 × List C7 × List C7 := ({ x.e with fp := ⟨none, 0, 0⟩, xp := ⟨none, 0, 0⟩, vp := ⟨none, 0, 0⟩ }, x.f, x.a, x.v)
def AllAt (w : World) (xs : List En) : Prop := ∀ x ∈ xs, x.at w
theorem AllAt.on {w w' : World} {xs : List En} (h : AllAt w xs) (hb : Below w.heap.size w w') : AllAt w' xs := fun x hx => (h x hx).on hb
end Go.Proofs.Ytmggggijamligaa
namespace Go.Proofs.Ytmggggijamligaa
set_option linter.unusedVariables false
open Go.RowKit
open Go.Lib (hid)
theorem fold_cells : ∀ (l : List Value) (k off : Nat) (A : Array Value), ((l.zipIdx k).foldl (fun acc p => acc.setIfInBounds (off + p.2) p.1) A).size = A.size ∧
    ∀ j, ((l.zipIdx k).foldl (fun acc p => acc.setIfInBounds (off + p.2) p.1) A)[j]? = if off + k ≤ j ∧ j < off + k + l.length ∧ j < A.size then l[j - (off + k)]? else A[j]?
  | [], k, off, A => ⟨rfl, fun j => by
    rw [if_neg (by simp; omega)]; rfl⟩
  | c :: l, k, off, A => by
    rw [List.zipIdx_cons, List.foldl_cons]
    obtain ⟨h1, h2⟩ := fold_cells l (k + 1) off (A.setIfInBounds (off + k) c)
    refine ⟨h1.trans (by simp), fun j => ?_⟩
    rw [h2 j]
    simp only [Array.size_setIfInBounds, Array.getElem?_setIfInBounds, List.length_cons]
    by_cases hj : off + k = j
    · subst hj
      rw [if_neg (fun hh => absurd hh.1 (by omega))]
      by_cases hs : off + k < A.size
      · rw [if_pos rfl, if_pos hs, if_pos ⟨Nat.le_refl _, by omega, hs⟩]; simp
      · rw [if_pos rfl, if_neg hs, if_neg (fun hh => hs hh.2.2), Array.getElem?_eq_none (by omega)]
    · rw [if_neg hj]
      by_cases hin : off + (k + 1) ≤ j ∧ j < off + (k + 1) + l.length ∧ j < A.size
      · rw [if_pos hin, if_pos ⟨by omega, by omega, hin.2.2⟩, show j - (off + k) = (j - (off + (k + 1))) + 1 by omega]; rfl
      · rw [if_neg hin, if_neg (fun hh => hin ⟨by omega, by omega, hh.2.2⟩)]
theorem fill_all (cs A : Array Value) (h : A.size = cs.size) : cs.zipIdx.foldl (fun acc (p : Value × Nat) => acc.setIfInBounds (0 + p.2) p.1) A = cs := by
  rw [← Array.foldl_toList, Array.toList_zipIdx]
  obtain ⟨h1, h2⟩ := fold_cells cs.toList 0 0 A
  apply Array.ext_getElem?
  intro j
  rw [h2 j]
  by_cases hj : j < cs.size
  · rw [if_pos (by simp; omega)]; simp
  · rw [if_neg (by simp; omega), Array.getElem?_eq_none (by omega), Array.getElem?_eq_none (by omega)]
theorem run_bs1 {t T : TypeId} {z : Value} {cs : Array Value} {K : Nat} (ht : Try.prog.underlying t = some (.slice T)) (hs : ∀ w, (sizeOf T).run Try.prog w = .ok K w) (hz : ∀ w, (zeroValue T).run Try.prog w = .ok z w) (hK : cs.size = K) (h0 : K ≠ 0) (h1 : K ≤ 100) (w : World) :
    (Instr.buildSlice t 1 #[(0, .agg cs)]).run Try.prog w = .ok (.slice (some ⟨w.heap.size, 0, none⟩) 1 1) (w.alloc (.cells cs T)) := by
  subst hK
  have hf : Instr.fill (fun i => some (i * cs.size, cs.size)) ((Array.range (1 * cs.size)).map (z.cells[· % z.cells.size]!)) [(0, .agg cs)] = some cs := by
    unfold Instr.fill
    simp only [Nat.zero_mul, Value.cells]
    rw [if_neg (by simp)]
    unfold Instr.fill
    rw [fill_all _ _ (by simp)]
  unfold Instr.buildSlice
  simp only [Sem.run_bind, run_underlying ht, Result.andThen_ok, hs w]
  have e24 : (2 : Nat) ^ 24 = 16777216 := by simp
  rw [e24, if_neg (show ¬ (1 * cs.size > 16777216) by omega), if_neg (show ¬ 1 * cs.size = 0 by omega)]
  simp only [Sem.run_bind, hz w, Result.andThen_ok, Sem.run_pure]
  rw [hf]
  simp only [Sem.run_bind, Sem.run_pure]
  rfl
theorem wpList_bs1 {ops : Array Oper} {rest : List Oper} {op : Oper} {a : Act} {w : World} {Q : Exit → Act → World → Prop} {x : Operand} {t T : TypeId} {z : Value} {K : Nat} (cs : Array Value) (hgd : op.guard = none) (ho : op.op = .buildSlice t 1 #[(0, x)]) (hx : a.eval x = .agg cs)
    (ht : Try.prog.underlying t = some (.slice T)) (hs : ∀ w, (sizeOf T).run Try.prog w = .ok K w) (hz : ∀ w, (zeroValue T).run Try.prog w = .ok z w) (hK : cs.size = K) (h0 : K ≠ 0) (h1 : K ≤ 100)
    (h : ∀ W, W.heap[w.heap.size]? = some (.cells cs T (0, 0)) → Below w.heap.size w W → W = w.alloc (.cells cs T) → wpList Try.prog ops Q rest (a.put op.dst (.slice (some ⟨w.heap.size, 0, none⟩) 1 1)) W) : wpList Try.prog ops Q (op :: rest) a w := by
  refine wpList_plain hgd fun _ hK' => ?_
  unfold Oper.wp execOp
  simp only [ho, List.map_toArray, List.map_cons, List.map_nil, hx, Sem.run_bind, run_bs1 ht hs hz hK h0 h1 w, Result.andThen_ok]
  exact hK' _ _ (h _ (heap_alloc_new w _) ((Below.refl _ w).alloc (Nat.le_refl _) _) rfl)
theorem newCells {W : World} {q : Nat} {T : TypeId} {e : Ev} (h : Ob W q T e) : ∀ (j : Nat) u, e.list[j]? = some u → W.cell? ((⟨q, 0, none⟩ : Addr).add j) = some u := fun j u hu => by
  rw [addr_add]; exact h.cell hu
theorem wpList_bsR {ops : Array Oper} {rest : List Oper} {op : Oper} {a : Act} {w : World} {Q : Exit → Act → World → Prop} {x : Operand} (e : Ev) (hgd : op.guard = none) (ho : op.op = .buildSlice 26 1 #[(0, x)]) (hx : a.eval x = .agg e.arr)
    (h : ∀ W, Ob W w.heap.size 39 e → Below w.heap.size w W → wpList Try.prog ops Q rest (a.put op.dst (.slice (some ⟨w.heap.size, 0, none⟩) 1 1)) W) : wpList Try.prog ops Q (op :: rest) a w :=
  wpList_bs1 e.arr hgd ho hx Try.underlying26 Try.sizeOf39 Try.zeroValue39 (Ev.size e) (by decide) (by decide) fun W h1 h2 _ => h W h1 h2
theorem wpList_apR {ops : Array Oper} {rest : List Oper} {op : Oper} {a : Act} {w : World} {Q : Exit → Act → World → Prop} {s x : Operand} {v : Value} {es : List Ev} {B q : Nat} (e : Ev) (hgd : op.guard = none) (ho : op.op = .call { callee := .builtin .append, args := #[s, x], argTypes := #[26, 26] }) (hs : a.eval s = v) (hx : a.eval x = .slice (some ⟨q, 0, none⟩) 1 1)
    (hown : OwnR w B v es) (hq : Ob w q 39 e) (hl : es.length ≤ 100000) (hB : B ≤ w.heap.size) (h : ∀ v' W, OwnR W B v' (es ++ [e]) → w.grownBy W v.ownBlock → wpList Try.prog ops Q rest (a.put op.dst v') W) : wpList Try.prog ops Q (op :: rest) a w := by
  obtain ⟨i0, hi, hz0, hz1, hz2⟩ := info_parts Try.infoRz
  refine wpList_append_own w hgd s x 26 ho B 39 i0 _ 19 192 Try.underlying26 hi hz0 hz1 hz2 rfl (by decide) v es.length _ hs hown ⟨q, 0, none⟩ 1 1 e.list hx (kE e) (newCells hq) (oneE e) (by unfold maxLen; omega) (by omega) hB ?_
  intro v' W hown' hg _
  refine h v' W ?_ hg
  unfold OwnR OwnG
  rw [flatG_append, flatG_one, List.length_append, List.length_singleton]
  exact hown'
end Go.Proofs.Ytmggggijamligaa
namespace Go.Proofs.Ytmggggijamligaa
set_option linter.unusedVariables false
open Go.RowKit
open Go.Lib (hid)
set_option linter.unusedVariables false
open Go.RowKit
open Go.Lib (hid)
set_option linter.unusedVariables false
open Go.RowKit
open Go.Lib (hid)
set_option linter.unusedVariables false
open Go.RowKit
open Go.Lib (hid)
set_option linter.unusedVariables false
open Go.RowKit
open Go.Lib (hid)
set_option linter.unusedVariables false
open Go.RowKit
open Go.Lib (hid)
set_option linter.unusedVariables false
open Go.RowKit
open Go.Lib (hid)
set_option linter.unusedVariables false
open Go.RowKit
open Go.Lib (hid)
end Go.Proofs.Ytmggggijamligaa
namespace Go.Proofs.Ytmggggijamligaa
set_option linter.unusedVariables false
open Go.RowKit
open Go.Lib (hid)
theorem loadEl {T : TypeId} (hu : ∃ d, Try.prog.underlying T = some d ∧ d.isRow = true) (hi : (Try.prog.info? T).map (·.size) = some 19) {ops : Array Oper} {rest : List Oper} {op : Oper} {a : Act} {w : World} {Q : Exit → Act → World → Prop} {x : Operand} {b o : Nat} (e : Ev) (hgd : op.guard = none) (ho : op.op = .load T x)
    (hx : a.eval x = .pointer (some ⟨b, o, none⟩)) (hc : w.rangeAt b o e.list) (h : wpList Try.prog ops Q rest (a.put op.dst (.agg e.arr)) w) : wpList Try.prog ops Q (op :: rest) a w := by
  obtain ⟨d, h1, h2⟩ := hu
  exact wpList_load_mid hgd T x ho b o hx e.list d hc h1 h2 (by rw [hi, Ev.len]) h
theorem uE : ∃ d, Try.prog.underlying 55 = some d ∧ d.isRow = true := ⟨_, Try.underlying55, rfl⟩
theorem uR : ∃ d, Try.prog.underlying 39 = some d ∧ d.isRow = true := ⟨_, Try.underlying39, rfl⟩
theorem iE : (Try.prog.info? 55).map (·.size) = some 19 := by kernel_rfl
theorem iR : (Try.prog.info? 39).map (·.size) = some 19 := by kernel_rfl
theorem hid2 {p q : Prop} (a : p) (b : q) : p ∧ q := ⟨a, b⟩
set_option maxHeartbeats 4000000 in
set_option maxRecDepth 100000 in
theorem rOf {v : Value} {es : List Ev} {w : World} (h : SlE w v es) (hl : es.length ≤ 100000) : Calls Try.prog 7 #[v] w fun e w' => ∃ r, e = .returned r ∧ OwnR w' w.heap.size r es ∧ Below w.heap.size w w' := by
  have hO := cOf
  obtain ⟨b, o, cap, a, rfl, ha, hc, hb⟩ := h
  obtain ⟨i0, hi, hz0, hz1, hz2⟩ := info_parts Try.infoRz
  go_enter Try.func7, Try.ntmps7
  go_wp2
  go_loopw [3, 4] (fun u i wr => ∃ (k : Nat), k ≤ es.length ∧ i = .int .i64 k ∧ OwnR wr w.heap.size u (es.take k) ∧ Below w.heap.size w wr) (fun _ i _ => es.length - (intOf i).toNat)
  case atStart => exact ⟨0, Nat.zero_le _, rfl, OwnG.nil _ _ _ _ _, Below.refl _ _⟩
  case round =>
    obtain ⟨k, hk, rfl, hown, hB⟩ := hrel
    have hsz := hB.size
    have HB := hid hB
    have HBB := hid hB
    have HN := hid hown
    have HKL : Hid ((es.take k).length ≤ 100000) := hid (by rw [List.length_take]; omega)
    obtain ⟨g0, cap0, n0, rfl, -⟩ := hown.asSlice
    clear hB hown
    by_cases hlt : k < es.length
    · obtain rfl := ha (by omega)
      obtain ⟨e, he⟩ : ∃ e, es[k]? = some e := ⟨es[k], List.getElem?_eq_getElem hlt⟩
      have hbw := hb (by omega)
      have HC : Hid (wr.rangeAt b (o + k * 19) e.list) := hid ((hc.on HB.out fun _ => hbw) k e he)
      have HE := hid he
      clear hc he
      go_wp2_with (first
        | ((with_reducible refine loadEl (T := 55) (x := ?lx1) (b := ?lb1) (o := ?lo1) uE iE e ?lg1 ?lp1 ?lxx1 ?lc1 ?_); (case lg1 => rfl); (case lp1 => rfl); (case lxx1 => rfl); (case lc1 => exact HC.out))
        | (go_at_call 19; refine (hO e _).mono ?_; rintro x w1 ⟨rfl, hB1⟩; have HB1 := hid (HB.out.trans (hB1.mono HB.out.size)); have HO := hid (OwnG.on HN.out hB1); have hs1 := HB1.out.size; clear hB1)
        | ((with_reducible refine wpList_bsR (x := ?bx2) e ?bg2 ?bo2 ?bv2 ?_); (case bg2 => rfl); (case bo2 => rfl); (case bv2 => rfl); intro W2 hN hB2; have hs2 := hB2.size; have HN2 := hid hN; have HO2 := hid (OwnG.on HO.out hB2); have HB2 := hid (HB1.out.trans (hB2.mono hs1)); clear hN hB2)
        | (at_builtin; go_loud ((with_reducible refine wpList_apR (s := ?as3) (x := ?ax3) (es := es.take k) (B := w.heap.size) (q := w1.heap.size) e ?ag3 ?ao3 ?av3 ?aw3 HO2.out HN2.out HKL.out (Nat.le_trans hs1 hs2) ?_); (case ag3 => rfl); (case ao3 => rfl); (case av3 => rfl); (case aw3 => rfl); intro v' w3 hO3 hg; have HX := hid (hid2 hO3 (HB2.out.grown hg (by omega) (fun j hj => (HO2.out.lt j hj).1))); obtain ⟨g', cap', n', rfl, -⟩ := hO3.asSlice; clear hO3 hg HO HO2 HN2))
        | fail)
      go_roundw
      case rel => exact ⟨k + 1, by omega, by congr 1, by rw [takeN_snoc HE.out]; exact HX.out.1, HX.out.2⟩
      case measure => simp [intOf]; omega
    · have hkk : k = es.length := by omega
      subst hkk
      rw [List.take_length] at HN
      clear HB
      go_wp2_with fail
      go_ret
      exact ⟨_, rfl, HN.out, HBB.out⟩
end Go.Proofs.Ytmggggijamligaa
namespace Go.Proofs.Ytmggggijamligaa
set_option linter.unusedVariables false
open Go.RowKit
open Go.Lib (hid)
def fitsE (e : Ev) : Bool := decide (e.fp.n ≤ 80) && decide (e.xp.n ≤ 80) && decide (e.vp.n ≤ 80)
set_option maxHeartbeats 1200000 in
set_option maxRecDepth 100000 in
theorem cFits (e : Ev) (w : World) : Calls Try.prog 18 #[.agg e.arr] w fun x w' => x = .returned (.bool (fitsE e)) ∧ Below w.heap.size w w' := by
  have c11 := newE_cell w e 55 (j := 11) rfl
  have c14 := newE_cell w e 55 (j := 14) rfl
  have c18 := newE_cell w e 55 (j := 18) rfl
  have hb : Below w.heap.size w (w.alloc (.cells e.arr 55)) := (Below.refl _ w).alloc (Nat.le_refl _) _
  by_cases h1 : e.fp.n ≤ 80
  · by_cases h2 : e.xp.n ≤ 80
    · by_cases h3 : e.vp.n ≤ 80
      all_goals (
        go_enter Try.func18, Try.ntmps18
        go_wp2
        go_ret
        exact ⟨ret_bool (by unfold fitsE; simp [h1, h2, h3]; try omega), hb⟩)
    · go_enter Try.func18, Try.ntmps18
      go_wp2
      go_ret
      exact ⟨ret_bool (by unfold fitsE; simp [h1, h2]; try omega), hb⟩
  · go_enter Try.func18, Try.ntmps18
    go_wp2
    go_ret
    exact ⟨ret_bool (by unfold fitsE; simp [h1]; try omega), hb⟩
end Go.Proofs.Ytmggggijamligaa
