import Derived.Test.YtmggggijamligaaG01
import Derived.Test.YtmggggijamligaaRows
import Derived.WalkKit
import Derived.LoopTactic
import Derived.ProofKit
import Derived.Lib.Hide
import Derived.Laws.AppendOwn
import Derived.Laws.AppendOwnNone
import Derived.Laws.OwnMore
import Derived.OwnWalk
import Derived.WalkMore
import Derived.Lib.SliceRun
import Derived.Laws.BytesArg
import Derived.Laws.IdiomStrings
import Derived.Test.YtmggggijamligaaG00
import Derived.Deep.QuietTactic
import Derived.BigQuiet
namespace Go.Proofs.Ytmggggijamligaa
set_option linter.unusedVariables false
open Go.RowKit
open Go.Lib (hid)
theorem fold_cells : ∀ (l : List Value) (k off : Nat) (A : Array Value), ((l.zipIdx k).foldl (fun acc p => acc.setIfInBounds (off + p.2) p.1) A).size = A.size ∧
    ∀ j, ((l.zipIdx k).foldl (fun acc p => acc.setIfInBounds (off + p.2) p.1) A)[j]? = if off + k ≤ j ∧ j < off + k + l.length ∧ j < A.size then l[j - (off + k)]? else A[j]?
  | [], k, off, A => ⟨rfl, fun j => by
    rw [if_neg (by simp; omega)]; rfl⟩
  | c :: l, k, off, A => by
    rw [List.zipIdx_cons, List.foldl_cons]
    obtain ⟨h1, h2⟩ := fold_cells l (k + 1) off (A.setIfInBounds (off + k) c)
    refine ⟨h1.trans (by simp), fun j => ?_⟩
    rw [h2 j]
    simp only [Array.size_setIfInBounds, Array.getElem?_setIfInBounds, List.length_cons]
    by_cases hj : off + k = j
    · subst hj
      rw [if_neg (fun hh => absurd hh.1 (by omega))]
      by_cases hs : off + k < A.size
      · rw [if_pos rfl, if_pos hs, if_pos ⟨Nat.le_refl _, by omega, hs⟩]; simp
      · rw [if_pos rfl, if_neg hs, if_neg (fun hh => hs hh.2.2), Array.getElem?_eq_none (by omega)]
    · rw [if_neg hj]
      by_cases hin : off + (k + 1) ≤ j ∧ j < off + (k + 1) + l.length ∧ j < A.size
      · rw [if_pos hin, if_pos ⟨by omega, by omega, hin.2.2⟩, show j - (off + k) = (j - (off + (k + 1))) + 1 by omega]; rfl
      · rw [if_neg hin, if_neg (fun hh => hin ⟨by omega, by omega, hh.2.2⟩)]
theorem fill_all (cs A : Array Value) (h : A.size = cs.size) : cs.zipIdx.foldl (fun acc (p : Value × Nat) => acc.setIfInBounds (0 + p.2) p.1) A = cs := by
  rw [← Array.foldl_toList, Array.toList_zipIdx]
  obtain ⟨h1, h2⟩ := fold_cells cs.toList 0 0 A
  apply Array.ext_getElem?
  intro j
  rw [h2 j]
  by_cases hj : j < cs.size
  · rw [if_pos (by simp; omega)]; simp
  · rw [if_neg (by simp; omega), Array.getElem?_eq_none (by omega), Array.getElem?_eq_none (by omega)]
theorem run_bs1 {t T : TypeId} {z : Value} {cs : Array Value} {K : Nat} (ht : Try.prog.underlying t = some (.slice T)) (hs : ∀ w, (sizeOf T).run Try.prog w = .ok K w) (hz : ∀ w, (zeroValue T).run Try.prog w = .ok z w) (hK : cs.size = K) (h0 : K ≠ 0) (h1 : K ≤ 100) (w : World) :
    (Instr.buildSlice t 1 #[(0, .agg cs)]).run Try.prog w = .ok (.slice (some ⟨w.heap.size, 0, none⟩) 1 1) (w.alloc (.cells cs T)) := by
  subst hK
  have hf : Instr.fill (fun i => some (i * cs.size, cs.size)) ((Array.range (1 * cs.size)).map (z.cells[· % z.cells.size]!)) [(0, .agg cs)] = some cs := by
    unfold Instr.fill
    simp only [Nat.zero_mul, Value.cells]
    rw [if_neg (by simp)]
    unfold Instr.fill
    rw [fill_all _ _ (by simp)]
  unfold Instr.buildSlice
  simp only [Sem.run_bind, run_underlying ht, Result.andThen_ok, hs w]
  have e24 : (2 : Nat) ^ 24 = 16777216 := by simp
  rw [e24, if_neg (show ¬ (1 * cs.size > 16777216) by omega), if_neg (show ¬ 1 * cs.size = 0 by omega)]
  simp only [Sem.run_bind, hz w, Result.andThen_ok, Sem.run_pure]
  rw [hf]
  simp only [Sem.run_bind, Sem.run_pure]
  rfl
theorem wpList_bs1 {ops : Array Oper} {rest : List Oper} {op : Oper} {a : Act} {w : World} {Q : Exit → Act → World → Prop} {x : Operand} {t T : TypeId} {z : Value} {K : Nat} (cs : Array Value) (hgd : op.guard = none) (ho : op.op = .buildSlice t 1 #[(0, x)]) (hx : a.eval x = .agg cs)
    (ht : Try.prog.underlying t = some (.slice T)) (hs : ∀ w, (sizeOf T).run Try.prog w = .ok K w) (hz : ∀ w, (zeroValue T).run Try.prog w = .ok z w) (hK : cs.size = K) (h0 : K ≠ 0) (h1 : K ≤ 100)
    (h : ∀ W, W.heap[w.heap.size]? = some (.cells cs T (0, 0)) → Below w.heap.size w W → W = w.alloc (.cells cs T) → wpList Try.prog ops Q rest (a.put op.dst (.slice (some ⟨w.heap.size, 0, none⟩) 1 1)) W) : wpList Try.prog ops Q (op :: rest) a w := by
  refine wpList_plain hgd fun _ hK' => ?_
  unfold Oper.wp execOp
  simp only [ho, List.map_toArray, List.map_cons, List.map_nil, hx, Sem.run_bind, run_bs1 ht hs hz hK h0 h1 w, Result.andThen_ok]
  exact hK' _ _ (h _ (heap_alloc_new w _) ((Below.refl _ w).alloc (Nat.le_refl _) _) rfl)
theorem newCells {W : World} {q : Nat} {T : TypeId} {e : Ev} (h : Ob W q T e) : ∀ (j : Nat) u, e.list[j]? = some u → W.cell? ((⟨q, 0, none⟩ : Addr).add j) = some u := fun j u hu => by
  rw [addr_add]; exact h.cell hu
theorem wpList_bsE {ops : Array Oper} {rest : List Oper} {op : Oper} {a : Act} {w : World} {Q : Exit → Act → World → Prop} {x : Operand} (e : Ev) (hgd : op.guard = none) (ho : op.op = .buildSlice 22 1 #[(0, x)]) (hx : a.eval x = .agg e.arr)
    (h : ∀ W, Ob W w.heap.size 55 e → Below w.heap.size w W → wpList Try.prog ops Q rest (a.put op.dst (.slice (some ⟨w.heap.size, 0, none⟩) 1 1)) W) : wpList Try.prog ops Q (op :: rest) a w :=
  wpList_bs1 e.arr hgd ho hx Try.underlying22 Try.sizeOf55 Try.zeroValue55 (Ev.size e) (by decide) (by decide) fun W h1 h2 _ => h W h1 h2
theorem wpList_apE {ops : Array Oper} {rest : List Oper} {op : Oper} {a : Act} {w : World} {Q : Exit → Act → World → Prop} {s x : Operand} {v : Value} {es : List Ev} {B q : Nat} (e : Ev) (hgd : op.guard = none) (ho : op.op = .call { callee := .builtin .append, args := #[s, x], argTypes := #[22, 22] }) (hs : a.eval s = v) (hx : a.eval x = .slice (some ⟨q, 0, none⟩) 1 1)
    (hown : OwnE w B v es) (hq : Ob w q 55 e) (hl : es.length ≤ 100000) (hB : B ≤ w.heap.size) (h : ∀ v' W, OwnE W B v' (es ++ [e]) → w.grownBy W v.ownBlock → wpList Try.prog ops Q rest (a.put op.dst v') W) : wpList Try.prog ops Q (op :: rest) a w := by
  obtain ⟨i0, hi, hz0, hz1, hz2⟩ := info_parts Try.infoEz
  refine wpList_append_own w hgd s x 22 ho B 55 i0 _ 19 192 Try.underlying22 hi hz0 hz1 hz2 rfl (by decide) v es.length _ hs hown ⟨q, 0, none⟩ 1 1 e.list hx (kE e) (newCells hq) (oneE e) (by unfold maxLen; omega) (by omega) hB ?_
  intro v' W hown' hg _
  refine h v' W ?_ hg
  unfold OwnE OwnG
  rw [flatG_append, flatG_one, List.length_append, List.length_singleton]
  exact hown'
end Go.Proofs.Ytmggggijamligaa
namespace Go.Proofs.Ytmggggijamligaa
set_option linter.unusedVariables false
open Go.RowKit
open Go.Lib (hid)
set_option linter.unusedVariables false
open Go.RowKit
open Go.Lib (hid)
set_option linter.unusedVariables false
open Go.RowKit
open Go.Lib (hid)
set_option linter.unusedVariables false
open Go.RowKit
open Go.Lib (hid)
set_option linter.unusedVariables false
open Go.RowKit
open Go.Lib (hid)
set_option linter.unusedVariables false
open Go.RowKit
open Go.Lib (hid)
set_option linter.unusedVariables false
open Go.RowKit
open Go.Lib (hid)
set_option linter.unusedVariables false
open Go.RowKit
open Go.Lib (hid)
end Go.Proofs.Ytmggggijamligaa
namespace Go.Proofs.Ytmggggijamligaa
set_option linter.unusedVariables false
open Go.RowKit
open Go.Lib (hid)
theorem loadEl {T : TypeId} (hu : ∃ d, Try.prog.underlying T = some d ∧ d.isRow = true) (hi : (Try.prog.info? T).map (·.size) = some 19) {ops : Array Oper} {rest : List Oper} {op : Oper} {a : Act} {w : World} {Q : Exit → Act → World → Prop} {x : Operand} {b o : Nat} (e : Ev) (hgd : op.guard = none) (ho : op.op = .load T x)
    (hx : a.eval x = .pointer (some ⟨b, o, none⟩)) (hc : w.rangeAt b o e.list) (h : wpList Try.prog ops Q rest (a.put op.dst (.agg e.arr)) w) : wpList Try.prog ops Q (op :: rest) a w := by
  obtain ⟨d, h1, h2⟩ := hu
  exact wpList_load_mid hgd T x ho b o hx e.list d hc h1 h2 (by rw [hi, Ev.len]) h
theorem uE : ∃ d, Try.prog.underlying 55 = some d ∧ d.isRow = true := ⟨_, Try.underlying55, rfl⟩
theorem iE : (Try.prog.info? 55).map (·.size) = some 19 := by kernel_rfl
end Go.Proofs.Ytmggggijamligaa
namespace Go.Proofs.Ytmggggijamligaa
set_option linter.unusedVariables false
open Go.RowKit
open Go.Lib (hid)
end Go.Proofs.Ytmggggijamligaa
namespace Go.Proofs.Ytmggggijamligaa
set_option linter.unusedVariables false
open Go.RowKit
open Go.Lib (hid)
abbrev evs (xs : List En) : List Ev := xs.map En.e
theorem at_evs {xs : List En} {k : Nat} {x : En} (h : xs[k]? = some x) : (evs xs)[k]? = some x.e := by rw [List.getElem?_map, h]; rfl
end Go.Proofs.Ytmggggijamligaa
namespace Go.Proofs.Ytmggggijamligaa
set_option linter.unusedVariables false
open Go.RowKit
open Go.Lib (hid)
def nums (l : List Int) : List Value := l.map (Value.int .i64)
abbrev OwnI (w : World) (B : Nat) (v : Value) (l : List Int) : Prop := w.ownsRow B 3 1 v l.length (nums l)
theorem OwnI.nil (w : World) (B : Nat) : OwnI w B (.slice none 0 0) [] := World.ownsRow_nil _ _ _ _
theorem OwnI.grows {w W0 w1 : World} {B : Nat} {v v' : Value} {l : List Int} {x : Int} (hB : Below B w W0) (hsz : B ≤ W0.heap.size) (hlt : ∀ k, v.ownBlock = some k → B ≤ k)
    (hown' : w1.ownsRow B 3 1 v' (l.length + 1) (nums l ++ [.int .i64 x])) (hg : W0.grownBy w1 v.ownBlock) : OwnI w1 B v' (l ++ [x]) ∧ Below B w w1 :=
  ⟨by unfold OwnI nums; rw [List.map_append, List.length_append]; exact hown', hB.grown hg hsz hlt⟩
def SlI (w : World) (v : Value) (l : List Int) : Prop :=
  ∃ (b o cap : Nat) (a : Option Addr), v = .slice a l.length cap ∧ (0 < l.length → a = some ⟨b, o, none⟩) ∧ (∀ (j : Nat) x, l[j]? = some x → w.cell? ⟨b, o + j, none⟩ = some (.int .i64 x)) ∧ (0 < l.length → b < w.heap.size)
theorem OwnI.sl {w : World} {B : Nat} {v : Value} {l : List Int} (h : OwnI w B v l) : SlI w v l := by
  have hl := h.lt
  have hcl := fun g (hg : v.ownBlock = some g) => h.cells hg
  rcases h.2 with ⟨rfl, h0⟩ | ⟨g, cap, cur, rfl, hb, hg, hn, hm, hs, ht⟩
  · obtain rfl := List.length_eq_zero_iff.1 h0
    exact ⟨0, 0, 0, none, rfl, fun h => absurd h (by simp), fun j x hx => by simp at hx, fun h => absurd h (by simp)⟩
  · refine ⟨g, 0, cap, _, rfl, fun _ => rfl, fun j x hx => ?_, fun _ => (hl g rfl).2⟩
    have := hcl g rfl j (.int .i64 x) (by simp [nums, hx])
    rw [show (⟨g, 0, none⟩ : Addr).add j = ⟨g, 0 + j, none⟩ from by unfold Addr.add; split <;> simp_all] at this
    exact this
theorem SlI.on {w w' : World} {v : Value} {l : List Int} (h : SlI w v l) (hb : Below w.heap.size w w') : SlI w' v l := by
  obtain ⟨b, o, cap, a, rfl, ha, hc, hl⟩ := h
  refine ⟨b, o, cap, a, rfl, ha, fun j x hx => ?_, fun h0 => by have := hl h0; have := hb.size; omega⟩
  have h0 : 0 < l.length := by have := (List.getElem?_eq_some_iff.1 hx).1; omega
  rw [hb.cell (p := ⟨b, o + j, none⟩) (hl h0)]
  exact hc j x hx
end Go.Proofs.Ytmggggijamligaa
namespace Go.Proofs.Ytmggggijamligaa
set_option linter.unusedVariables false
open Go.RowKit
open Go.Lib (hid)
def isId (id : Int) (y : En) : Bool := decide (y.id = id)
def findN (l : List En) (id : Int) : Option Nat := l.findIdx? (isId id)
def optI : Option Nat → Int
  | none => -1
  | some j => (j : Int)
def hasI (l : List Int) (id : Int) : Bool := l.contains id
def depB (l : List En) (had : List Int) (t : Int) (c : C7) : Bool :=
  match l.find? (isId c.i) with
  | none => false
  | some y => y.e.dn && (decide (t < y.e.vt) || hasI had c.i)
def waitB (l : List En) (had : List Int) (i : Nat) (x : En) : Bool := x.e.dn && !hasI had x.id && decide (findN l x.id = some i)
def readyB (l : List En) (had : List Int) (i : Nat) (x : En) : Bool := waitB l had i x && x.v.all (depB l had x.e.vt)
def betterB (l : List En) (x : En) (b : Option Nat) : Bool :=
  match b with
  | none => true
  | some j => match l[j]? with
    | none => false
    | some y => decide (x.e.vt < y.e.vt)
def nextUp (l : List En) (had : List Int) : Nat → Option Nat
  | 0 => none
  | k + 1 => match l[k]? with
    | none => nextUp l had k
    | some x => if readyB l had k x && betterB l x (nextUp l had k) then some k else nextUp l had k
def nextN (l : List En) (had : List Int) : Option Nat := nextUp l had l.length
def allG (l : List En) : Nat → List Int → List C7
  | 0, _ => []
  | n + 1, h => match nextN l h with
    | none => []
    | some i => match l[i]? with
      | none => []
      | some x => x.e.c :: allG l n (h ++ [x.id])
def allF (l : List En) (had : List Int) : List C7 := allG l l.length had
def waitsUp (l : List En) (h : List Int) : Nat → List Int
  | 0 => []
  | k + 1 => match l[k]? with
    | none => waitsUp l h k
    | some x => if waitB l h k x then waitsUp l h k ++ [x.id] else waitsUp l h k
def waitsF (l : List En) (had : List Int) : List Int := waitsUp l (had ++ idsL (allF l had)) l.length
theorem findN_some {l : List En} {id : Int} {j : Nat} (h : findN l id = some j) : ∃ y, l[j]? = some y ∧ y.id = id ∧ l.find? (isId id) = some y := by
  unfold findN at h
  obtain ⟨h1, h2, h3⟩ := List.findIdx?_eq_some_iff_getElem.1 h
  refine ⟨l[j], List.getElem?_eq_getElem h1, by simpa [isId] using h2, ?_⟩
  rw [List.find?_eq_some_iff_getElem]
  exact ⟨h2, j, h1, rfl, fun k hk => by simpa using h3 k hk⟩
theorem findN_none {l : List En} {id : Int} (h : findN l id = none) : l.find? (isId id) = none := by
  unfold findN at h
  rw [List.findIdx?_eq_none_iff] at h
  rw [List.find?_eq_none]
  exact fun x hx => by rw [h x hx]; decide
theorem findN_yes {l : List En} {id : Int} {k : Nat} {y : En} (hy : l[k]? = some y) (h : isId id y = true) (hp : ∀ z ∈ l.take k, isId id z = false) : findN l id = some k := by
  unfold findN
  have hk := (List.getElem?_eq_some_iff.1 hy).1
  rw [List.findIdx?_eq_some_iff_getElem]
  refine ⟨hk, ?_, fun j hj => ?_⟩
  · have := (List.getElem?_eq_some_iff.1 hy).2; rw [this]; exact h
  · have := hp (l[j]'(by omega)) (by rw [List.mem_iff_getElem]; exact ⟨j, by rw [List.length_take]; omega, by rw [List.getElem_take]⟩)
    rw [this]; decide
theorem nextUp_succ {l : List En} {had : List Int} {k : Nat} {x : En} (h : l[k]? = some x) : nextUp l had (k + 1) = if readyB l had k x && betterB l x (nextUp l had k) then some k else nextUp l had k := by
  show (match l[k]? with | none => _ | some x => _) = _
  rw [h]
theorem waitsUp_succ {l : List En} {had : List Int} {k : Nat} {x : En} (h : l[k]? = some x) : waitsUp l had (k + 1) = if waitB l had k x then waitsUp l had k ++ [x.id] else waitsUp l had k := by
  show (match l[k]? with | none => _ | some x => _) = _
  rw [h]
theorem nextUp_lt {l : List En} {had : List Int} : ∀ {k i : Nat}, nextUp l had k = some i → i < k ∧ ∃ x, l[i]? = some x ∧ readyB l had i x = true
  | 0, i, h => by cases h
  | k + 1, i, h => by
    rcases hx : l[k]? with _ | x
    · have h' : nextUp l had k = some i := by
        have : nextUp l had (k + 1) = nextUp l had k := by
          show (match l[k]? with | none => _ | some x => _) = _
          rw [hx]
        rw [← this]; exact h
      obtain ⟨h1, h2⟩ := nextUp_lt h'
      exact ⟨by omega, h2⟩
    · rw [nextUp_succ hx] at h
      split at h
      · rename_i hr
        cases h
        exact ⟨by omega, x, hx, (Bool.and_eq_true _ _ ▸ hr).1⟩
      · obtain ⟨h1, h2⟩ := nextUp_lt h
        exact ⟨by omega, h2⟩
theorem nextN_some {l : List En} {had : List Int} {i : Nat} (h : nextN l had = some i) : i < l.length ∧ ∃ x, l[i]? = some x ∧ readyB l had i x = true := nextUp_lt h
def leftN (l : List En) (h : List Int) : Nat := l.countP fun y => !h.contains y.id
theorem readyB_new {l : List En} {had : List Int} {i : Nat} {x : En} (h : readyB l had i x = true) : hasI had x.id = false := by
  unfold readyB waitB at h
  simp only [Bool.and_eq_true, Bool.not_eq_true'] at h
  exact h.1.1.2
theorem count_lt {α : Type} {p q : α → Bool} : ∀ {l : List α} {i : Nat} {x : α}, l[i]? = some x → (∀ y, q y = true → p y = true) → p x = true → q x = false → l.countP q < l.countP p
  | [], i, x, h, _, _, _ => by simp at h
  | a :: l, 0, x, h, hm, hp, hq => by
    simp at h; subst h
    rw [List.countP_cons_of_neg (by rw [hq]; decide), List.countP_cons_of_pos hp]
    have := List.countP_mono_left (l := l) (p := q) (q := p) fun y _ => hm y
    omega
  | a :: l, i + 1, x, h, hm, hp, hq => by
    have h1 := count_lt (l := l) (by simpa using h) hm hp hq
    rw [List.countP_cons, List.countP_cons]
    by_cases ha : q a = true
    · rw [if_pos ha, if_pos (hm a ha)]; omega
    · rw [if_neg ha]; omega
theorem leftN_lt {l : List En} {h : List Int} {i : Nat} {x : En} (hx : l[i]? = some x) (hn : hasI h x.id = false) : leftN l (h ++ [x.id]) < leftN l h := by
  unfold hasI at hn
  unfold leftN
  refine count_lt hx (fun y hy => ?_) (by rw [hn]; rfl) (by simp)
  simp only [Bool.not_eq_true', List.contains_eq_mem, decide_eq_false_iff_not, List.mem_append] at hy ⊢
  exact fun h => hy (.inl h)
theorem leftN_le (l : List En) (h : List Int) : leftN l h ≤ l.length := List.countP_le_length
theorem allG_eq {l : List En} : ∀ (n m : Nat) (h : List Int), leftN l h ≤ n → leftN l h ≤ m → allG l n h = allG l m h := by
  have key : ∀ (n m : Nat) (h : List Int), leftN l h ≤ n → leftN l h ≤ m → n ≤ m → allG l n h = allG l m h := by
    intro n
    induction n with
    | zero =>
      intro m h h0 hm _
      rcases m with _ | m
      · rfl
      · show [] = (match nextN l h with | none => [] | some i => _)
        rcases hN : nextN l h with _ | i
        · rfl
        · obtain ⟨_, x, hx, hr⟩ := nextN_some hN
          have := leftN_lt hx (readyB_new hr)
          omega
    | succ n ih =>
      intro m h h0 hm hnm
      obtain ⟨m, rfl⟩ : ∃ m', m = m' + 1 := ⟨m - 1, by omega⟩
      show (match nextN l h with | none => [] | some i => _) = (match nextN l h with | none => [] | some i => _)
      rcases hN : nextN l h with _ | i
      · rfl
      · obtain ⟨_, x, hx, hr⟩ := nextN_some hN
        have := leftN_lt hx (readyB_new hr)
        show (match l[i]? with | none => [] | some x => _) = (match l[i]? with | none => [] | some x => _)
        rw [hx]
        show x.e.c :: _ = x.e.c :: _
        rw [ih m _ (by omega) (by omega) (by omega)]
  intro n m h h1 h2
  rcases Nat.le_total n m with hnm | hnm
  · exact key n m h h1 h2 hnm
  · exact (key m n h h2 h1 hnm).symm
theorem allF_none {l : List En} {h : List Int} (hN : nextN l h = none) : allF l h = [] := by
  unfold allF
  rcases l.length with _ | n
  · rfl
  · show (match nextN l h with | none => [] | some i => _) = _
    rw [hN]
theorem allF_some {l : List En} {h : List Int} {i : Nat} {x : En} (hN : nextN l h = some i) (hx : l[i]? = some x) : allF l h = x.e.c :: allF l (h ++ [x.id]) := by
  obtain ⟨hlt, y, hy, hr⟩ := nextN_some hN
  obtain rfl : x = y := by rw [hx] at hy; exact Option.some.inj hy
  have hl := leftN_lt hx (readyB_new hr)
  have hle := leftN_le l h
  unfold allF
  rw [allG_eq l.length (l.length - 1 + 1) h hle (by omega)]
  show (match nextN l h with | none => [] | some i => _) = _
  rw [hN]
  show (match l[i]? with | none => [] | some x => _) = _
  rw [hx]
  show x.e.c :: _ = x.e.c :: _
  rw [allG_eq (l.length - 1) l.length _ (by omega) (leftN_le _ _)]
theorem allF_len (l : List En) : ∀ (n : Nat) (h : List Int), leftN l h ≤ n → (allF l h).length ≤ leftN l h := by
  intro n
  induction n with
  | zero =>
    intro h h0
    rcases hN : nextN l h with _ | i
    · rw [allF_none hN]; simp
    · obtain ⟨_, x, hx, hr⟩ := nextN_some hN
      have := leftN_lt hx (readyB_new hr)
      omega
  | succ n ih =>
    intro h h0
    rcases hN : nextN l h with _ | i
    · rw [allF_none hN]; simp
    · obtain ⟨_, x, hx, hr⟩ := nextN_some hN
      have h1 := leftN_lt hx (readyB_new hr)
      have h2 := ih (h ++ [x.id]) (by omega)
      rw [allF_some hN hx, List.length_cons]
      omega
theorem allF_le (l : List En) (h : List Int) : (allF l h).length ≤ l.length := Nat.le_trans (allF_len l _ h (Nat.le_refl _)) (leftN_le l h)
theorem waitsUp_len {l : List En} {h : List Int} : ∀ k, (waitsUp l h k).length ≤ k
  | 0 => Nat.le_refl _
  | k + 1 => by
    have := waitsUp_len (l := l) (h := h) k
    rcases hx : l[k]? with _ | x
    · have e : waitsUp l h (k + 1) = waitsUp l h k := by
        show (match l[k]? with | none => _ | some x => _) = _
        rw [hx]
      rw [e]; omega
    · rw [waitsUp_succ hx]
      split
      · rw [List.length_append, List.length_singleton]; omega
      · omega
end Go.Proofs.Ytmggggijamligaa
namespace Go.Proofs.Ytmggggijamligaa
set_option linter.unusedVariables false
open Go.RowKit
open Go.Lib (hid)
end Go.Proofs.Ytmggggijamligaa
namespace Go.Proofs.Ytmggggijamligaa
set_option linter.unusedVariables false
open Go.RowKit
open Go.Lib (hid)
end Go.Proofs.Ytmggggijamligaa
namespace Go.Proofs.Ytmggggijamligaa
set_option linter.unusedVariables false
open Go.RowKit
open Go.Lib (hid)
theorem better_some {l : List En} {x y : En} {j : Nat} (hy : l[j]? = some y) : betterB l x (some j) = decide (x.e.vt < y.e.vt) := by
  unfold betterB
  show (match l[j]? with | none => false | some y => _) = _
  rw [hy]
theorem next_keep {l : List En} {had : List Int} {k : Nat} {x : En} {o : Option Nat} (hx : l[k]? = some x) (ho : o = nextUp l had k) (h : (readyB l had k x && betterB l x o) = false) : o = nextUp l had (k + 1) := by
  rw [nextUp_succ hx, ← ho, h]; rfl
theorem next_take {l : List En} {had : List Int} {k : Nat} {x : En} {o : Option Nat} (hx : l[k]? = some x) (ho : o = nextUp l had k) (h : (readyB l had k x && betterB l x o) = true) : some k = nextUp l had (k + 1) := by
  rw [nextUp_succ hx, ← ho, h]; rfl
end Go.Proofs.Ytmggggijamligaa
namespace Go.Proofs.Ytmggggijamligaa
set_option linter.unusedVariables false
open Go.RowKit
open Go.Lib (hid)
def SlS (w : World) (v : Value) (l : List Int) : Prop := SlI w v l ∧ (v = .slice none 0 0 ∨ ∃ ad c, v = .slice (some ad) l.length c)
theorem SlS.on {w w' : World} {v : Value} {l : List Int} (h : SlS w v l) (hb : Below w.heap.size w w') : SlS w' v l := ⟨h.1.on hb, h.2⟩
theorem nums_len (l : List Int) : (nums l).length = l.length := by unfold nums; simp
theorem nums_append (a b : List Int) : nums (a ++ b) = nums a ++ nums b := by unfold nums; simp
theorem nums_one (l : List Int) : ∀ u ∈ nums l, u.oneCell' = true := fun u hu => by
  unfold nums at hu
  obtain ⟨x, _, rfl⟩ := List.mem_map.1 hu
  rfl
theorem OwnI.made (w : World) : OwnI (w.alloc (.cells #[] 3)) w.heap.size (.slice (Option.some ⟨w.heap.size, 0, none⟩) 0 0) [] :=
  World.ownsRow_made w #[] 0 (Nat.le_refl _) (by unfold maxLen; omega) rfl
theorem OwnI.asSlice {w : World} {B : Nat} {v : Value} {l : List Int} (h : OwnI w B v l) : ∃ (g : Option Addr) (cap n : Nat), v = .slice g n cap ∧ n = l.length := by
  rcases h.2 with ⟨rfl, h0⟩ | ⟨g, cap, cur, rfl, _⟩
  · exact ⟨none, 0, 0, rfl, h0.symm⟩
  · exact ⟨_, cap, _, rfl, rfl⟩
theorem OwnI.slS {w : World} {B : Nat} {v : Value} {l : List Int} (h : OwnI w B v l) : SlS w v l := by
  refine ⟨h.sl, ?_⟩
  rcases h.2 with ⟨rfl, h0⟩ | ⟨g, cap, cur, rfl, _⟩
  · exact .inl rfl
  · exact .inr ⟨_, cap, rfl⟩
theorem OwnI.on {w w' : World} {B : Nat} {v : Value} {l : List Int} (h : OwnI w B v l) (hb : Below w.heap.size w w') : OwnI w' B v l := own_below h hb fun k hk => (h.lt k hk).2
theorem wpList_append_ii {w : World} {ops : Array Oper} {rest : List Oper} {o : Oper} {a : Act} {Q : Exit → Act → World → Prop} (hgd : o.guard = none) (s x : Operand) (ho : o.op = .call { callee := .builtin .append, args := #[s, x], argTypes := #[23, 23] })
    (B : Nat) (v : Value) (ps : List Int) (hs : a.eval s = v) (hown : OwnI w B v ps) (v2 : Value) (qs : List Int) (hx : a.eval x = v2) (h2 : SlS w v2 qs) (hlen : ps.length + qs.length ≤ 1000000) (hbase : B ≤ w.heap.size)
    (h : ∀ v' w', OwnI w' B v' (ps ++ qs) → w.grownBy w' v.ownBlock → wpList Try.prog ops Q rest (a.put o.dst v') w') : wpList Try.prog ops Q (o :: rest) a w := by
  obtain ⟨i0, hi, hz0, hz1, hz2⟩ := info_parts Try.infoI
  obtain ⟨⟨b, off, cap, a2, e, ha, hc, hl⟩, hn⟩ := h2
  rcases hn with rfl | ⟨ad, c, rfl⟩
  · have h0 : qs = [] := by injection e with e1 e2 e3; exact List.length_eq_zero_iff.1 e2.symm
    subst h0
    refine wpList_append_own_none hgd s x 23 ho B 3 i0 1 Try.underlying23 hi v ps.length (nums ps) hs hown hx ?_
    exact h v w (by rw [List.append_nil]; exact hown) (grownRefl _ _)
  · injection e with e1 e2 e3
    refine wpList_append_own _ hgd s x 23 ho B 3 i0 _ 1 8 Try.underlying23 hi hz0 hz1 hz2 rfl (by decide) v ps.length (nums ps) hs hown ad qs.length c (nums qs) hx (by rw [nums_len]; omega) (fun j u hu => ?_) (nums_one qs) (by unfold maxLen; omega) (by omega) hbase ?_
    · have hj := (List.getElem?_eq_some_iff.1 hu).1
      rw [nums_len] at hj
      have had := ha (by omega)
      rw [← e1] at had
      cases had
      have hx : qs[j]? = some qs[j] := List.getElem?_eq_getElem hj
      unfold nums at hu
      rw [List.getElem?_map, hx] at hu
      obtain rfl := Option.some.inj hu
      rw [show (⟨b, off, none⟩ : Addr).add j = ⟨b, off + j, none⟩ from by unfold Addr.add; split <;> simp_all]
      exact hc j _ hx
    · intro v' w' ho' hg _
      refine h v' w' ?_ hg
      show World.ownsRow _ _ _ _ _ _ _
      rw [nums_append, List.length_append]; exact ho'
end Go.Proofs.Ytmggggijamligaa
namespace Go.Proofs.Ytmggggijamligaa
set_option linter.unusedVariables false
open Go.RowKit
open Go.Lib (hid)
def lenS : Value → Nat
  | .slice _ n _ => n
  | _ => 0
theorem Own.lenS {w : World} {B : Nat} {v : Value} {cs : List C7} (h : Own w B v cs) : lenS v = cs.length := by
  rcases h.shape with ⟨rfl, rfl⟩ | ⟨g, cap, rfl, _⟩ <;> rfl
theorem Own.asS {w : World} {B : Nat} {v : Value} {cs : List C7} (h : Own w B v cs) : ∃ (g : Option Addr) (n cap : Nat), v = .slice g n cap ∧ n = cs.length := by
  rcases h.shape with ⟨e, e'⟩ | ⟨g, cap, e, _⟩
  · exact ⟨none, 0, 0, e, by rw [e']; rfl⟩
  · exact ⟨_, _, cap, e, rfl⟩
theorem Own.onB {w w' : World} {B : Nat} {v : Value} {cs : List C7} (h : Own w B v cs) (hb : Below w.heap.size w w') : Own w' B v cs := own_below h hb fun k hk => (h.lt k hk).2
theorem OwnI.one (w : World) (x : Int) : SlS (w.alloc (.cells #[.int .i64 x] 3)) (.slice (some ⟨w.heap.size, 0, none⟩) 1 1) [x] :=
  OwnI.slS (B := w.heap.size) (show World.ownsRow _ _ _ _ _ _ _ from ⟨rfl, .inr ⟨w.heap.size, 1, _, rfl, Nat.le_refl _, heap_alloc_new w _, Nat.le_refl _, by unfold maxLen; omega, rfl, rfl⟩⟩)
theorem all_step {l : List En} {had h : List Int} {out : List C7} {i : Nat} {x : En} (hx : l[i]? = some x) (hi : some i = nextN l h) (ho : out ++ allF l h = allF l had) : (out ++ [x.e.c]) ++ allF l (h ++ [x.id]) = allF l had := by
  rw [← ho, allF_some hi.symm hx, List.append_assoc]; rfl
theorem all_left {l : List En} {h : List Int} {n m : Nat} {i : Nat} {x : En} (hx : l[i]? = some x) (hi : some i = nextN l h) (ho : n + leftN l h ≤ m) : n + 1 + leftN l (h ++ [x.id]) ≤ m := by
  obtain ⟨_, y, hy, hr⟩ := nextN_some hi.symm
  obtain rfl : x = y := by rw [hx] at hy; exact Option.some.inj hy
  have := leftN_lt hx (readyB_new hr)
  omega
theorem all_lt {l : List En} {h : List Int} {n m : Nat} {i : Nat} (hi : some i = nextN l h) (ho : n + leftN l h ≤ m) : n < m := by
  obtain ⟨_, y, hy, hr⟩ := nextN_some hi.symm
  have := leftN_lt hy (readyB_new hr)
  omega
def CmdR (W : World) (b p : Nat) (c : C7) : Prop := W.cell? ⟨b, p, none⟩ = some (.int .i64 c.i) ∧ W.cell? ⟨b, p + 1, none⟩ = some (.int .i64 c.k) ∧ W.cell? ⟨b, p + 2, none⟩ = some (.int .i64 c.s) ∧ W.cell? ⟨b, p + 3, none⟩ = some (.int .i64 c.t) ∧ W.cell? ⟨b, p + 4, none⟩ = some (.int .i64 c.d) ∧ W.cell? ⟨b, p + 5, none⟩ = some (.int .i64 c.p) ∧ W.cell? ⟨b, p + 6, none⟩ = some (.int .i64 c.q)
theorem cmd_range {W : World} {b p : Nat} {e : Ev} (h : W.rangeAt b p e.list) : CmdR W b p e.c := ⟨h 0 _ rfl, h 1 _ rfl, h 2 _ rfl, h 3 _ rfl, h 4 _ rfl, h 5 _ rfl, h 6 _ rfl⟩
end Go.Proofs.Ytmggggijamligaa
namespace Go.Proofs.Ytmggggijamligaa
set_option linter.unusedVariables false
open Go.RowKit
open Go.Lib (hid)
theorem wait_keep {l : List En} {H : List Int} {k : Nat} {x : En} {u : List Int} (hx : l[k]? = some x) (hu : u = waitsUp l H k) (h : waitB l H k x = false) : u = waitsUp l H (k + 1) := by
  rw [waitsUp_succ hx, h, hu]; rfl
theorem wait_take {l : List En} {H : List Int} {k : Nat} {x : En} {u : List Int} (hx : l[k]? = some x) (hu : u = waitsUp l H k) (h : waitB l H k x = true) : u ++ [x.id] = waitsUp l H (k + 1) := by
  rw [waitsUp_succ hx, h, hu]; rfl
end Go.Proofs.Ytmggggijamligaa
