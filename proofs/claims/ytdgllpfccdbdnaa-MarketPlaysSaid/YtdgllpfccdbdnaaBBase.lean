/- Ways of memory: slices whose elements take several cells, what leaves them as they are. -/
import Derived.Test.YtdgllpfccdbdnaaRows
import Derived.WalkKit
import Derived.LoopTactic
import Derived.ProofKit
import Derived.Lib.Hide
import Derived.Laws.AppendOwn
import Derived.Laws.AppendOwnNone
import Derived.Laws.OwnMore
import Derived.OwnWalk
import Derived.WalkMore
import Derived.Lib.SliceRun
import Derived.Maps.AppendAt
import Derived.StillTailTactics
import Derived.Deep.RegionLaw
import Derived.Deep.MidRow
import Derived.Deep.QuietTactic
import Derived.BigQuiet
import Derived.Lib.QuietBelow
namespace Go.Proofs.Ytdgllpfccdbdnaa
set_option linter.unusedVariables false
open Go.RowKit
open Go.Lib (hid)

theorem ret_int {k : IntKind} {a b : Int} (h : a = b) : Ending.returned (.int k a) = .returned (.int k b) := by rw [h]
theorem ret_bool {a b : Bool} (h : a = b) : Ending.returned (.bool a) = .returned (.bool b) := by rw [h]
theorem own_monoB {w : World} {B B' : Nat} {e : TypeId} {size : Nat} {v : Value} {n : Nat} {xs : List Value} (h : w.ownsRow B e size v n xs) (hB : B' ≤ B) : w.ownsRow B' e size v n xs := by
  refine ⟨h.1, ?_⟩
  rcases h.2 with h2 | ⟨g, cap, cur, rfl, hb, r⟩
  · exact .inl h2
  · exact .inr ⟨g, cap, cur, rfl, Nat.le_trans hB hb, r⟩
theorem own_below {w w' : World} {B C : Nat} {e : TypeId} {size : Nat} {v : Value} {n : Nat} {xs : List Value} (h : w.ownsRow B e size v n xs) (hb : Below C w w') (hC : ∀ k, v.ownBlock = some k → k < C) : w'.ownsRow B e size v n xs := by
  refine ⟨h.1, ?_⟩
  rcases h.2 with h2 | ⟨g, cap, cur, rfl, h1, hg, r⟩
  · exact .inl h2
  · exact .inr ⟨g, cap, cur, rfl, h1, by rw [hb.block g (hC g rfl)]; exact hg, r⟩
theorem grownSet (w : World) (a : Addr) (u : Value) : w.grownBy (w.setCell a u) (some a.block) :=
  ⟨rfl, rfl, rfl, by simp [World.setCell], fun k _ hk => by
    have hne : a.block ≠ k := fun e => hk (by rw [e])
    simp [World.setCell, Array.getElem?_modify, hne]⟩
theorem grownRefl (w : World) (row : Option Nat) : w.grownBy w row := ⟨rfl, rfl, rfl, Nat.le_refl _, fun _ _ _ => rfl⟩
theorem grownTrans {a b c : World} {row : Option Nat} (h : a.grownBy b row) (k : b.grownBy c row) : a.grownBy c row :=
  ⟨k.os.trans h.os, k.tape.trans h.tape, k.output.trans h.output, Nat.le_trans h.size k.size, fun i hi hn => (k.block i (Nat.lt_of_lt_of_le hi h.size) hn).trans (h.block i hi hn)⟩
theorem grownBelow {a b : World} (h : Below a.heap.size a b) (row : Option Nat) : a.grownBy b row := ⟨h.os, h.tape, h.output, h.size, fun k hk _ => h.block k hk⟩
theorem grownAlloc {a b : World} {row : Option Nat} (h : a.grownBy b row) (o : Obj) : a.grownBy (b.alloc o) row := grownTrans h (World.grownBy_alloc b o row)
theorem grownDrew {a b : World} {row : Option Nat} (h : a.grownBy b row) : a.grownBy b.drew row := ⟨h.os, h.tape, h.output, h.size, h.block⟩
/-- A slice's three words. -/
structure Sv where
  a : Option Addr
  n : Nat
  c : Nat
abbrev Sv.v (s : Sv) : Value := .slice s.a s.n s.c
/-- The world loses its make. -/
theorem opaqueW {P : Program} {ops : Array Oper} {l : List Oper} {a : Act} {Q : Exit → Act → World → Prop} (w : World) (h : ∀ W, W = w → wpList P ops Q l a W) : wpList P ops Q l a w := h w rfl
theorem obAlloc {k : Nat} {o x : Obj} {W : World} (h : W.heap[k]? = some o) : (W.alloc x).heap[k]? = some o := (Below.heap_alloc _ _ _ (Array.getElem?_eq_some_iff.1 h).1).trans h
theorem obDrew {k : Nat} {o : Obj} {W : World} (h : W.heap[k]? = some o) : W.drew.heap[k]? = some o := h
theorem belowDrew {B : Nat} {w W : World} (h : Below B w W) : Below B w W.drew := ⟨h.1, h.2, h.3, h.4, h.5⟩
theorem cellAt' {w : World} {q : Nat} {vs : Array Value} {t : TypeId} (h : w.heap[q]? = some (.cells vs t (0, 0))) (j : Nat) : w.cell? ⟨q, j, none⟩ = vs[j]? := cell_of_row w q j vs t (0, 0) h
theorem new_one {W : World} {x : Value} {T : TypeId} {g : Nat} (hg : g = W.heap.size) : ∀ (j : Nat) u, [x][j]? = some u → (W.alloc (.cells #[x] T)).cell? ((⟨g, 0, none⟩ : Addr).add j) = some u := by
  intro j u hj
  subst hg
  rw [show (⟨W.heap.size, 0, none⟩ : Addr).add j = ⟨W.heap.size, j, none⟩ from by unfold Addr.add; split <;> simp_all, World.cell?_alloc_new, List.getElem?_toArray]
  exact hj
theorem obOn {w w' : World} {k : Nat} {o : Obj} {B : Nat} (h : w.heap[k]? = some o) (hb : Below B w w') (hk : k < B) : w'.heap[k]? = some o := (hb.block k hk).trans h
section
variable {α : Type}
def flatG (cl : α → List Value) (xs : List α) : List Value := xs.flatMap cl
theorem flatG_nil (cl : α → List Value) : flatG cl [] = [] := rfl
theorem flatG_cons (cl : α → List Value) (x : α) (xs : List α) : flatG cl (x :: xs) = cl x ++ flatG cl xs := by simp [flatG]
theorem flatG_append (cl : α → List Value) (a b : List α) : flatG cl (a ++ b) = flatG cl a ++ flatG cl b := by simp [flatG]
theorem flatG_one (cl : α → List Value) (x : α) : flatG cl [x] = cl x := by simp [flatG]
theorem flatG_len {cl : α → List Value} {K : Nat} (hk : ∀ x, (cl x).length = K) : ∀ xs : List α, (flatG cl xs).length = xs.length * K
  | [] => by simp [flatG]
  | x :: xs => by rw [flatG_cons, List.length_append, hk, flatG_len hk xs, List.length_cons, Nat.add_mul]; omega
theorem flatG_at {cl : α → List Value} {K : Nat} (hk : ∀ x, (cl x).length = K) : ∀ (xs : List α) (j : Nat) (x : α), xs[j]? = some x → ∀ (f : Nat) v, (cl x)[f]? = some v → (flatG cl xs)[j * K + f]? = some v
  | [], j, x, h, _, _, _ => by simp at h
  | d :: xs, 0, x, h, f, v, hv => by
    simp at h; subst h
    have hf := (List.getElem?_eq_some_iff.1 hv).1
    rw [flatG_cons, Nat.zero_mul, Nat.zero_add, List.getElem?_append_left hf]; exact hv
  | d :: xs, j + 1, x, h, f, v, hv => by
    have := flatG_at hk xs j x (by simpa using h) f v hv
    have h7 : (cl d).length = K := hk d
    rw [flatG_cons, List.getElem?_append_right (by rw [h7, Nat.add_mul]; omega), h7, show (j + 1) * K + f - K = j * K + f by rw [Nat.add_mul]; omega]
    exact this
theorem flatG_all {cl : α → List Value} (h1 : ∀ x, ∀ u ∈ cl x, u.oneCell' = true) (xs : List α) : ∀ u ∈ flatG cl xs, u.oneCell' = true := fun u hu => by
  obtain ⟨x, _, hx⟩ := List.mem_flatMap.1 hu
  exact h1 x u hx
def RowsG (cl : α → List Value) (K : Nat) (w : World) (b o : Nat) (xs : List α) : Prop := ∀ (j : Nat) x, xs[j]? = some x → w.rangeAt b (o + j * K) (cl x)
def SlG (cl : α → List Value) (K : Nat) (w : World) (v : Value) (xs : List α) : Prop :=
  ∃ (b o cap : Nat) (a : Option Addr), v = .slice a xs.length cap ∧ (0 < xs.length → a = some ⟨b, o, none⟩) ∧ RowsG cl K w b o xs ∧ (0 < xs.length → b < w.heap.size)
theorem RowsG.on {cl : α → List Value} {K : Nat} {w w' : World} {b o B : Nat} {xs : List α} (h : RowsG cl K w b o xs) (hb : Below B w w') (hB : 0 < xs.length → b < B) : RowsG cl K w' b o xs := fun j x hx i v hv => by
  have h0 : 0 < xs.length := by have := (List.getElem?_eq_some_iff.1 hx).1; omega
  exact (hb.cell (p := ⟨b, _, none⟩) (hB h0)).trans (h j x hx i v hv)
theorem SlG.on {cl : α → List Value} {K : Nat} {w w' : World} {v : Value} {xs : List α} (h : SlG cl K w v xs) (hb : Below w.heap.size w w') : SlG cl K w' v xs := by
  obtain ⟨b, o, cap, a, rfl, ha, hr, hl⟩ := h
  exact ⟨b, o, cap, a, rfl, ha, hr.on hb hl, fun h0 => Nat.lt_of_lt_of_le (hl h0) hb.size⟩
theorem SlG.nil (cl : α → List Value) (K : Nat) (w : World) : SlG cl K w (.slice none 0 0) [] := ⟨0, 0, 0, none, rfl, fun h => absurd h (by simp), fun j x h => by simp at h, fun h => absurd h (by simp)⟩
abbrev OwnG (cl : α → List Value) (K : Nat) (T : TypeId) (w : World) (B : Nat) (v : Value) (xs : List α) : Prop := w.ownsRow B T K v xs.length (flatG cl xs)
theorem OwnG.nil (cl : α → List Value) (K : Nat) (T : TypeId) (w : World) (B : Nat) : OwnG cl K T w B (.slice none 0 0) [] := World.ownsRow_nil _ _ _ _
theorem addr_add (g j : Nat) : (⟨g, 0, none⟩ : Addr).add j = ⟨g, j, none⟩ := by unfold Addr.add; split <;> simp_all
theorem addr_add' (g o j : Nat) : (⟨g, o, none⟩ : Addr).add j = ⟨g, o + j, none⟩ := by unfold Addr.add; split <;> simp_all
theorem OwnG.slG {cl : α → List Value} {K : Nat} {T : TypeId} {w : World} {B : Nat} {v : Value} {xs : List α} (hk : ∀ x, (cl x).length = K) (h : OwnG cl K T w B v xs) : SlG cl K w v xs := by
  have hl := h.lt
  have hcl := fun g (hg : v.ownBlock = some g) => h.cells hg
  rcases h.2 with ⟨rfl, h0⟩ | ⟨g, cap, cur, rfl, hb, hg, hn, hm, hs, ht⟩
  · obtain rfl : xs = [] := List.length_eq_zero_iff.1 h0
    exact SlG.nil _ _ _
  · refine ⟨g, 0, cap, _, rfl, fun _ => rfl, fun j x hx f v hv => ?_, fun _ => (hl g rfl).2⟩
    have := hcl g rfl _ _ (flatG_at hk xs j x hx f v hv)
    rw [addr_add] at this
    rw [show 0 + j * K + f = j * K + f by omega]; exact this
theorem OwnG.asSlice {cl : α → List Value} {K : Nat} {T : TypeId} {w : World} {B : Nat} {v : Value} {xs : List α} (h : OwnG cl K T w B v xs) : ∃ (g : Option Addr) (cap n : Nat), v = .slice g n cap ∧ n = xs.length := by
  rcases h.2 with ⟨rfl, h0⟩ | ⟨g, cap, cur, rfl, _⟩
  · exact ⟨none, 0, 0, rfl, h0.symm⟩
  · exact ⟨_, cap, _, rfl, rfl⟩
theorem OwnG.on {cl : α → List Value} {K : Nat} {T : TypeId} {w w' : World} {B : Nat} {v : Value} {xs : List α} (h : OwnG cl K T w B v xs) (hb : Below w.heap.size w w') : OwnG cl K T w' B v xs := own_below h hb fun k hk => (h.lt k hk).2
theorem OwnG.mono {cl : α → List Value} {K : Nat} {T : TypeId} {w : World} {B B' : Nat} {v : Value} {xs : List α} (h : OwnG cl K T w B v xs) (hB : B' ≤ B) : OwnG cl K T w B' v xs := own_monoB h hB
theorem OwnG.grows {cl : α → List Value} {K : Nat} {T : TypeId} {w W0 w1 : World} {B n : Nat} {v v' : Value} {xs : List α} {x : α} (hB : Below B w W0) (hsz : B ≤ W0.heap.size) (hlt : ∀ k, v.ownBlock = some k → B ≤ k)
    (hown' : w1.ownsRow B T K v' n (flatG cl xs ++ cl x)) (hn : n = xs.length + 1) (hg : W0.grownBy w1 v.ownBlock) : OwnG cl K T w1 B v' (xs ++ [x]) ∧ Below B w w1 :=
  ⟨by unfold OwnG; rw [flatG_append, flatG_one, List.length_append, List.length_singleton, ← hn]; exact hown', hB.grown hg hsz hlt⟩
end

/-- Nothing that was there has turned, but the blocks of a set. -/
structure Tch (S : Nat → Prop) (w w' : World) : Prop where
  os : w'.os = w.os
  tape : w'.tape = w.tape
  output : w'.output = w.output
  size : w.heap.size ≤ w'.heap.size
  block : ∀ k, k < w.heap.size → ¬ S k → w'.heap[k]? = w.heap[k]?
theorem Tch.refl (S : Nat → Prop) (w : World) : Tch S w w := ⟨rfl, rfl, rfl, Nat.le_refl _, fun _ _ _ => rfl⟩
theorem Tch.trans {S : Nat → Prop} {a b c : World} (h : Tch S a b) (k : Tch S b c) : Tch S a c :=
  ⟨k.os.trans h.os, k.tape.trans h.tape, k.output.trans h.output, Nat.le_trans h.size k.size, fun i hi hn => (k.block i (Nat.lt_of_lt_of_le hi h.size) hn).trans (h.block i hi hn)⟩
theorem Tch.next {S S' : Nat → Prop} {a b c : World} (h : Tch S a b) (k : Tch S' b c) (hS : ∀ i, S' i → S i ∨ a.heap.size ≤ i) : Tch S a c :=
  ⟨k.os.trans h.os, k.tape.trans h.tape, k.output.trans h.output, Nat.le_trans h.size k.size, fun i hi hn => (k.block i (Nat.lt_of_lt_of_le hi h.size) (fun hs => by rcases hS i hs with h1 | h1; exact hn h1; omega)).trans (h.block i hi hn)⟩
theorem Tch.mono {S S' : Nat → Prop} {a b : World} (h : Tch S a b) (hS : ∀ k, S k → S' k) : Tch S' a b := ⟨h.os, h.tape, h.output, h.size, fun i hi hn => h.block i hi fun hs => hn (hS i hs)⟩
theorem Tch.ofBelow {S : Nat → Prop} {w w' : World} (h : Below w.heap.size w w') : Tch S w w' := ⟨h.1, h.2, h.3, h.4, fun k hk _ => h.5 k hk⟩
theorem Tch.ofGrown {S : Nat → Prop} {w w' : World} {row : Option Nat} (h : w.grownBy w' row) (hr : ∀ k, row = some k → S k) : Tch S w w' :=
  ⟨h.os, h.tape, h.output, h.size, fun k hk hn => h.block k hk fun e => hn (hr k e.symm)⟩
theorem Tch.below {S : Nat → Prop} {B : Nat} {w w' : World} (h : Tch S w w') (hS : ∀ k, S k → B ≤ k) (hB : B ≤ w.heap.size) : Below B w w' :=
  ⟨h.os, h.tape, h.output, h.size, fun k hk => h.block k (by omega) fun hs => by have := hS k hs; omega⟩
theorem Tch.ob {S : Nat → Prop} {w w' : World} (h : Tch S w w') {k : Nat} {o : Obj} (hk : w.heap[k]? = some o) (hS : ¬ S k) : w'.heap[k]? = some o := (h.block k (Array.getElem?_eq_some_iff.1 hk).1 hS).trans hk
theorem Tch.set {S : Nat → Prop} (w : World) (a : Addr) (u : Value) (h : S a.block) : Tch S w (w.setCell a u) := Tch.ofGrown (grownSet w a u) fun k hk => by cases hk; exact h
theorem Tch.drew {S : Nat → Prop} {a b : World} (h : Tch S a b) : Tch S a b.drew := ⟨h.1, h.2, h.3, h.4, h.5⟩
theorem Tch.drewN {S : Nat → Prop} {a b : World} (h : Tch S a b) (n : Nat) : Tch S a (b.drewN n) := ⟨h.1, h.2, h.3, h.4, h.5⟩
theorem Tch.cell {S : Nat → Prop} {w w' : World} (h : Tch S w w') {k i : Nat} (hk : k < w.heap.size) (hS : ¬ S k) : w'.cell? ⟨k, i, none⟩ = w.cell? ⟨k, i, none⟩ := World.cell?_of_block (a := ⟨k, i, none⟩) (h.block k hk hS)

theorem own_tch {S : Nat → Prop} {w w' : World} {B n size : Nat} {e : TypeId} {v : Value} {xs : List Value} (h : w.ownsRow B e size v n xs) (ht : Tch S w w') (hv : ∀ k, v.ownBlock = some k → ¬ S k) : w'.ownsRow B e size v n xs := by
  refine ⟨h.1, ?_⟩
  rcases h.2 with h2 | ⟨g, cap, cur, rfl, h1, hg, r⟩
  · exact .inl h2
  · exact .inr ⟨g, cap, cur, rfl, h1, ht.ob hg (hv g rfl), r⟩
/-- Where a slice lies now: where it lay, or in what was made since. -/
def Fr (n : Nat) (v v' : Value) : Prop := ∀ k, v'.ownBlock = some k → v.ownBlock = some k ∨ n ≤ k
theorem Fr.refl (n : Nat) (v : Value) : Fr n v v := fun k h => .inl h
theorem Fr.trans {n m : Nat} {u v x : Value} (h : Fr n u v) (k : Fr m v x) (hm : n ≤ m) : Fr n u x := fun i hi => by
  rcases k i hi with h1 | h1
  · exact h i h1
  · exact .inr (Nat.le_trans hm h1)
theorem Fr.le {n m : Nat} {u v : Value} (h : Fr m u v) (hm : n ≤ m) : Fr n u v := fun i hi => (h i hi).imp id (Nat.le_trans hm)
/-- Two that share no block. -/
def Apt (u v : Value) : Prop := ∀ k, u.ownBlock = some k → v.ownBlock ≠ some k
theorem Apt.next {n : Nat} {u v v' : Value} (ha : Apt u v) (hu : ∀ k, u.ownBlock = some k → k < n) (hx : Fr n v v') : Apt u v' := fun k hk e => by
  rcases hx k e with h | h
  · exact ha k hk h
  · have := hu k hk; omega
theorem Apt.symm {u v : Value} (h : Apt u v) : Apt v u := fun k hk e => h k e hk


theorem bcell {B : Nat} {W w1 : World} (hb : Below B W w1) : (∀ b o, b < B → w1.cell? ⟨b, o, none⟩ = W.cell? ⟨b, o, none⟩) ∧ (∀ b o, b < B → w1.frozen? ⟨b, o, none⟩ = W.frozen? ⟨b, o, none⟩) :=
  ⟨fun b o h => hb.cell (p := ⟨b, o, none⟩) h, fun b o h => hb.frozen (p := ⟨b, o, none⟩) h⟩
theorem OwnG.tch {α : Type} {cl : α → List Value} {K : Nat} {T : TypeId} {S : Nat → Prop} {w w' : World} {B : Nat} {v : Value} {xs : List α} (h : OwnG cl K T w B v xs) (ht : Tch S w w') (hv : ∀ k, v.ownBlock = some k → ¬ S k) : OwnG cl K T w' B v xs := own_tch h ht hv
end Go.Proofs.Ytdgllpfccdbdnaa
