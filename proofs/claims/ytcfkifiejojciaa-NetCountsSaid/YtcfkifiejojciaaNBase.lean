/- Rows of slices of bytes in memory: what stands in them, and what leaves them as they are. -/
import Derived.Test.YtcfkifiejojciaaDBase
import Derived.Maps.AppendAt
import Derived.StillTailTactics
namespace Go.Proofs.Ytcfkifiejojciaa
set_option linter.unusedVariables false
open Go.RowKit
open Go.Lib (hid)

/-- Nothing that was there has turned, but the blocks of a set. -/
structure Tch (S : Nat → Prop) (w w' : World) : Prop where
  os : w'.os = w.os
  tape : w'.tape = w.tape
  output : w'.output = w.output
  size : w.heap.size ≤ w'.heap.size
  block : ∀ k, k < w.heap.size → ¬ S k → w'.heap[k]? = w.heap[k]?
theorem Tch.refl (S : Nat → Prop) (w : World) : Tch S w w := ⟨rfl, rfl, rfl, Nat.le_refl _, fun _ _ _ => rfl⟩
theorem Tch.trans {S : Nat → Prop} {a b c : World} (h : Tch S a b) (k : Tch S b c) : Tch S a c :=
  ⟨k.os.trans h.os, k.tape.trans h.tape, k.output.trans h.output, Nat.le_trans h.size k.size, fun i hi hn => (k.block i (Nat.lt_of_lt_of_le hi h.size) hn).trans (h.block i hi hn)⟩
theorem Tch.next {S S' : Nat → Prop} {a b c : World} (h : Tch S a b) (k : Tch S' b c) (hS : ∀ i, S' i → S i ∨ a.heap.size ≤ i) : Tch S a c :=
  ⟨k.os.trans h.os, k.tape.trans h.tape, k.output.trans h.output, Nat.le_trans h.size k.size, fun i hi hn => (k.block i (Nat.lt_of_lt_of_le hi h.size) (fun hs => by rcases hS i hs with h1 | h1; exact hn h1; omega)).trans (h.block i hi hn)⟩
theorem Tch.mono {S S' : Nat → Prop} {a b : World} (h : Tch S a b) (hS : ∀ k, S k → S' k) : Tch S' a b := ⟨h.os, h.tape, h.output, h.size, fun i hi hn => h.block i hi fun hs => hn (hS i hs)⟩
theorem Tch.ofBelow {S : Nat → Prop} {w w' : World} (h : Below w.heap.size w w') : Tch S w w' := ⟨h.1, h.2, h.3, h.4, fun k hk _ => h.5 k hk⟩
theorem Tch.ofGrown {S : Nat → Prop} {w w' : World} {row : Option Nat} (h : w.grownBy w' row) (hr : ∀ k, row = some k → S k) : Tch S w w' :=
  ⟨h.os, h.tape, h.output, h.size, fun k hk hn => h.block k hk fun e => hn (hr k e.symm)⟩
theorem Tch.below {S : Nat → Prop} {B : Nat} {w w' : World} (h : Tch S w w') (hS : ∀ k, S k → B ≤ k) (hB : B ≤ w.heap.size) : Below B w w' :=
  ⟨h.os, h.tape, h.output, h.size, fun k hk => h.block k (by omega) fun hs => by have := hS k hs; omega⟩
theorem Tch.ob {S : Nat → Prop} {w w' : World} (h : Tch S w w') {k : Nat} {o : Obj} (hk : w.heap[k]? = some o) (hS : ¬ S k) : w'.heap[k]? = some o := (h.block k (Array.getElem?_eq_some_iff.1 hk).1 hS).trans hk
theorem Tch.set {S : Nat → Prop} (w : World) (a : Addr) (u : Value) (h : S a.block) : Tch S w (w.setCell a u) := Tch.ofGrown (grownSet w a u) fun k hk => by cases hk; exact h
theorem Tch.drew {S : Nat → Prop} {a b : World} (h : Tch S a b) : Tch S a b.drew := ⟨h.1, h.2, h.3, h.4, h.5⟩
theorem Tch.drewN {S : Nat → Prop} {a b : World} (h : Tch S a b) (n : Nat) : Tch S a (b.drewN n) := ⟨h.1, h.2, h.3, h.4, h.5⟩
theorem Tch.cell {S : Nat → Prop} {w w' : World} (h : Tch S w w') {k i : Nat} (hk : k < w.heap.size) (hS : ¬ S k) : w'.cell? ⟨k, i, none⟩ = w.cell? ⟨k, i, none⟩ := World.cell?_of_block (a := ⟨k, i, none⟩) (h.block k hk hS)

/-- The block holds bytes. -/
def T8 (w : World) (k : Nat) : Prop := ∃ cur fz, w.heap[k]? = some (.cells cur 5 fz)
theorem not8 {w : World} {k : Nat} {cur : Array Value} {T : TypeId} {fz : Nat × Nat} (h : w.heap[k]? = some (.cells cur T fz)) (hT : T ≠ 5) : ¬ T8 w k := by
  rintro ⟨cur', fz', h'⟩
  rw [h] at h'
  injection h' with h1
  injection h1 with h2 h3
  exact hT h3
theorem SlB.same1 {w w' : World} {v : Value} {l : List UInt8} (h : SlB w v l) (hs : w.heap.size ≤ w'.heap.size) (hb : ∀ k, v.ownBlock = some k → 0 < l.length → k < w.heap.size → w'.heap[k]? = w.heap[k]?) : SlB w' v l := by
  obtain ⟨b, o, cap, a, rfl, hn, hc, ha, hcl, hl⟩ := h
  refine ⟨b, o, cap, a, rfl, hn, hc, ha, fun j x hx => ?_, fun h0 => by have := hl h0; omega⟩
  have h0 : 0 < l.length := by have := (List.getElem?_eq_some_iff.1 hx).1; omega
  obtain rfl := ha h0
  have := hb b rfl h0 (hl h0)
  rw [← hcl j x hx]
  simp only [World.cell?, this]
/-- Bytes that nobody writes into: they lie below B, or in a block of bytes. -/
def Bt (w : World) (B : Nat) (s : Sv) (l : List UInt8) : Prop := SlB w s.v l ∧ ∀ k, s.v.ownBlock = some k → 0 < l.length → k < B ∨ T8 w k
theorem SlB.blk {w : World} {v : Value} {l : List UInt8} (h : SlB w v l) (h0 : 0 < l.length) {k : Nat} (hk : v.ownBlock = some k) : k < w.heap.size := by
  obtain ⟨b, o, cap, a, rfl, hn, hc, ha, hcl, hl⟩ := h
  obtain rfl := ha h0
  cases hk
  exact hl h0
theorem Bt.tch {S : Nat → Prop} {w w' : World} {B : Nat} {s : Sv} {l : List UInt8} (h : Bt w B s l) (ht : Tch S w w') (hS : ∀ k, S k → B ≤ k ∧ ¬ T8 w k) : Bt w' B s l := by
  have hno : ∀ k, s.v.ownBlock = some k → 0 < l.length → ¬ S k := fun k hk h0 hs => by
    rcases h.2 k hk h0 with h1 | h1
    · have := (hS k hs).1; omega
    · exact (hS k hs).2 h1
  refine ⟨h.1.same1 ht.size fun k hk h0 hlt => ht.block k hlt (hno k hk h0), fun k hk h0 => ?_⟩
  rcases h.2 k hk h0 with h1 | ⟨cur, fz, h1⟩
  · exact .inl h1
  · exact .inr ⟨cur, fz, ht.ob h1 (hno k hk h0)⟩
theorem Bt.on {w w' : World} {B : Nat} {s : Sv} {l : List UInt8} (h : Bt w B s l) (hb : Below w.heap.size w w') : Bt w' B s l := h.tch (S := fun _ => False) (Tch.ofBelow hb) (fun _ h => h.elim)
theorem OwnB.bt {w : World} {C B : Nat} {s : Sv} {l : List UInt8} (h : OwnB w C s.v l) : Bt w B s l := by
  refine ⟨h.slb, fun k hk _ => .inr ?_⟩
  rcases h.2 with ⟨e, _⟩ | ⟨g, cap, cur, e, _, hg, _⟩
  · rw [e] at hk; cases hk
  · rw [e] at hk; cases hk; exact ⟨_, _, hg⟩
theorem SlB.bt {w : World} {B : Nat} {s : Sv} {l : List UInt8} (h : SlB w s.v l) (hB : w.heap.size ≤ B) : Bt w B s l := ⟨h, fun k hk h0 => .inl (by have := h.blk h0 hk; omega)⟩

theorem Try.infoS : (Try.prog.info? 40).map (fun i => (i.zero, i.size, i.bytes)) = some (some (.slice none 0 0), 1, 24) := by kernel_rfl
abbrev Ps := List (Sv × List UInt8)
def hd (ps : Ps) : List Value := ps.map fun p => p.1.v
def bs (ps : Ps) : List (List UInt8) := ps.map fun p => p.2
theorem hd_len (ps : Ps) : (hd ps).length = ps.length := by simp [hd]
theorem bs_len (ps : Ps) : (bs ps).length = ps.length := by simp [bs]
theorem hd_append (a b : Ps) : hd (a ++ b) = hd a ++ hd b := by simp [hd]
theorem bs_append (a b : Ps) : bs (a ++ b) = bs a ++ bs b := by simp [bs]
theorem hd_one (ps : Ps) : ∀ u ∈ hd ps, u.oneCell' = true := by
  intro u hu; simp [hd] at hu; obtain ⟨a, b, _, rfl⟩ := hu; rfl
theorem bs_at {ps : Ps} {j : Nat} {p : Sv × List UInt8} (h : ps[j]? = some p) : (bs ps)[j]? = some p.2 := by simp [bs, h]
/-- A row of one's own, of slices of bytes. -/
def Rw (w : World) (B : Nat) (v : Value) (ps : Ps) : Prop := w.ownsRow B 40 1 v ps.length (hd ps) ∧ ∀ p ∈ ps, Bt w B p.1 p.2
theorem own_tch {S : Nat → Prop} {w w' : World} {B n size : Nat} {e : TypeId} {v : Value} {xs : List Value} (h : w.ownsRow B e size v n xs) (ht : Tch S w w') (hv : ∀ k, v.ownBlock = some k → ¬ S k) : w'.ownsRow B e size v n xs := by
  refine ⟨h.1, ?_⟩
  rcases h.2 with h2 | ⟨g, cap, cur, rfl, h1, hg, r⟩
  · exact .inl h2
  · exact .inr ⟨g, cap, cur, rfl, h1, ht.ob hg (hv g rfl), r⟩
theorem Rw.tch {S : Nat → Prop} {w w' : World} {B : Nat} {v : Value} {ps : Ps} (h : Rw w B v ps) (ht : Tch S w w') (hS : ∀ k, S k → B ≤ k ∧ ¬ T8 w k) (hv : ∀ k, v.ownBlock = some k → ¬ S k) : Rw w' B v ps := ⟨own_tch h.1 ht hv, fun p hp => (h.2 p hp).tch ht hS⟩
theorem Rw.on {w w' : World} {B : Nat} {v : Value} {ps : Ps} (h : Rw w B v ps) (hb : Below w.heap.size w w') : Rw w' B v ps := h.tch (S := fun _ => False) (Tch.ofBelow hb) (fun _ h => h.elim) (fun _ _ h => h)
theorem Rw.nil (w : World) (B : Nat) : Rw w B (.slice none 0 0) [] := ⟨World.ownsRow_nil _ _ _ _, fun p hp => by simp at hp⟩
theorem Rw.made (w : World) {B : Nat} (hB : B ≤ w.heap.size) : Rw (w.alloc (.cells #[] 40)) B (.slice (some ⟨w.heap.size, 0, none⟩) 0 0) [] :=
  ⟨World.ownsRow_made w #[] 0 hB (by unfold maxLen; omega) rfl, fun p hp => by simp at hp⟩
theorem Rw.blk {w : World} {B : Nat} {v : Value} {ps : Ps} (h : Rw w B v ps) {k : Nat} (hk : v.ownBlock = some k) : B ≤ k ∧ k < w.heap.size ∧ ¬ T8 w k := by
  refine ⟨(h.1.lt k hk).1, (h.1.lt k hk).2, ?_⟩
  rcases h.1.2 with ⟨e, _⟩ | ⟨g, cap, cur, e, _, hg, _⟩
  · rw [e] at hk; cases hk
  · rw [e] at hk; cases hk; exact not8 hg (by decide)
theorem Rw.shape {w : World} {B : Nat} {v : Value} {ps : Ps} (h : Rw w B v ps) : (v = .slice none 0 0 ∧ ps = []) ∨ ∃ g cap, v = .slice (some ⟨g, 0, none⟩) ps.length cap ∧ ps.length ≤ cap ∧ cap ≤ maxLen ∧ B ≤ g ∧ g < w.heap.size ∧ (∀ j p, ps[j]? = some p → w.cell? ⟨g, j, none⟩ = some p.1.v) ∧ ∀ j, w.frozen? ⟨g, j, none⟩ = false := by
  have hl := h.1.lt
  have h1 := h.1
  rcases h.1.2 with ⟨rfl, h0⟩ | ⟨g, cap, cur, rfl, hb, hg, hn, hm, hs, ht⟩
  · exact .inl ⟨rfl, List.length_eq_zero_iff.1 h0⟩
  · refine .inr ⟨g, cap, rfl, hn, hm, hb, (hl g rfl).2, fun j p hj => ?_, fun j => h1.frozenAt j⟩
    have hj' := (List.getElem?_eq_some_iff.1 hj).1
    rw [h.1.cellAt j (by omega)]
    simp [hd, hj]
theorem Rw.any {w : World} {B : Nat} {v : Value} {ps : Ps} (h : Rw w B v ps) : ∃ a cap, v = .slice a ps.length cap ∧ ps.length ≤ cap ∧ (a = none → cap = 0) := by
  rcases h.shape with ⟨rfl, rfl⟩ | ⟨g, cap, rfl, hn, _⟩
  · exact ⟨none, 0, rfl, Nat.le_refl _, fun _ => rfl⟩
  · exact ⟨_, cap, rfl, hn, fun e => by cases e⟩
theorem Rw.asSlice {w : World} {B : Nat} {v : Value} {ps : Ps} (h : Rw w B v ps) : ∃ (a : Option Addr) (n cap : Nat), v = .slice a n cap ∧ n = ps.length := by
  obtain ⟨a, cap, rfl, _⟩ := h.any
  exact ⟨a, _, cap, rfl, rfl⟩
/-- A slice that holds what a row holds, whosever it is. -/
def Sr (w : World) (B : Nat) (v : Value) (qs : Ps) : Prop := ∃ (b o cap : Nat) (a : Option Addr), v = .slice a qs.length cap ∧ qs.length ≤ cap ∧ (a = none → cap = 0) ∧ (0 < qs.length → a = some ⟨b, o, none⟩) ∧ (∀ j q, qs[j]? = some q → w.cell? ⟨b, o + j, none⟩ = some q.1.v) ∧ (0 < qs.length → b < w.heap.size) ∧ ∀ q ∈ qs, Bt w B q.1 q.2
theorem Sr.any {w : World} {B : Nat} {v : Value} {ps : Ps} (h : Sr w B v ps) : ∃ a cap, v = .slice a ps.length cap ∧ ps.length ≤ cap ∧ (a = none → cap = 0) := by
  obtain ⟨b, o, cap, a, rfl, hcap, hn, ha, hc, hl, hb⟩ := h
  exact ⟨a, cap, rfl, hcap, hn⟩
theorem Rw.sr {w : World} {B : Nat} {v : Value} {ps : Ps} (h : Rw w B v ps) : Sr w B v ps := by
  rcases h.shape with ⟨rfl, rfl⟩ | ⟨g, cap, rfl, hn, hm, hB, hlt, hc, hf⟩
  · exact ⟨0, 0, 0, none, rfl, Nat.le_refl _, fun _ => rfl, fun h => absurd h (by simp), fun j q hj => by simp at hj, fun h => absurd h (by simp), fun q hq => by simp at hq⟩
  · exact ⟨g, 0, cap, _, rfl, hn, (fun e => by cases e), fun _ => rfl, fun j q hj => by rw [Nat.zero_add]; exact hc j q hj, fun _ => hlt, h.2⟩
theorem Sr.tch {S : Nat → Prop} {w w' : World} {B : Nat} {v : Value} {ps : Ps} (h : Sr w B v ps) (ht : Tch S w w') (hS : ∀ k, S k → B ≤ k ∧ ¬ T8 w k) (hv : 0 < ps.length → ∀ k, v.ownBlock = some k → ¬ S k) : Sr w' B v ps := by
  obtain ⟨b, o, cap, a, rfl, hcap, hn, ha, hc, hl, hb⟩ := h
  refine ⟨b, o, cap, a, rfl, hcap, hn, ha, fun j q hj => ?_, fun h0 => Nat.lt_of_lt_of_le (hl h0) ht.size, fun q hq => (hb q hq).tch ht hS⟩
  have h0 : 0 < ps.length := by have := (List.getElem?_eq_some_iff.1 hj).1; omega
  obtain rfl := ha h0
  rw [ht.cell (hl h0) (hv h0 b rfl)]
  exact hc j q hj
theorem Sr.on {w w' : World} {B : Nat} {v : Value} {ps : Ps} (h : Sr w B v ps) (hb : Below w.heap.size w w') : Sr w' B v ps := h.tch (S := fun _ => False) (Tch.ofBelow hb) (fun _ h => h.elim) (fun _ _ _ h => h)
theorem Sr.one {w : World} {B : Nat} {s : Sv} {l : List UInt8} (h : Bt w B s l) : Sr (w.alloc (.cells #[s.v] 40)) B (.slice (some ⟨w.heap.size, 0, none⟩) 1 1) [(s, l)] := by
  refine ⟨w.heap.size, 0, 1, _, rfl, by simp, (fun e => by cases e), fun _ => rfl, fun j q hj => ?_, fun _ => by simp, fun q hq => ?_⟩
  · match j, hj with
    | 0, hj => cases hj; rw [cell_of_row _ _ 0 _ _ (0, 0) (heap_alloc_new w _)]; rfl
  · obtain rfl := List.mem_singleton.1 hq
    exact h.on ((Below.refl _ w).alloc (Nat.le_refl _) _)
/-- The first of them. -/
theorem Sr.head {w : World} {B : Nat} {a : Option Addr} {n cap : Nat} {ps : Ps} (h : Sr w B (.slice a n cap) ps) {k : Nat} (hk : k ≤ ps.length) : Sr w B (.slice a k cap) (ps.take k) := by
  obtain ⟨b, o, cap', a', e, hcap, hn, ha, hc, hl, hb⟩ := h
  injection e with e1 e2 e3
  subst e1 e3
  have hlt : (ps.take k).length = k := by rw [List.length_take]; omega
  refine ⟨b, o, cap, a, by rw [hlt], by omega, hn, fun h0 => ha (by omega), fun j q hj => ?_, fun h0 => hl (by omega), fun q hq => hb q (List.mem_of_mem_take hq)⟩
  have hj' := (List.getElem?_eq_some_iff.1 hj).1
  rw [List.getElem?_take, if_pos (by omega)] at hj
  exact hc j q hj
/-- Where a slice lies now: where it lay, or in what was made since. -/
def Fr (n : Nat) (v v' : Value) : Prop := ∀ k, v'.ownBlock = some k → v.ownBlock = some k ∨ n ≤ k
theorem Fr.refl (n : Nat) (v : Value) : Fr n v v := fun k h => .inl h
theorem Fr.trans {n m : Nat} {u v x : Value} (h : Fr n u v) (k : Fr m v x) (hm : n ≤ m) : Fr n u x := fun i hi => by
  rcases k i hi with h1 | h1
  · exact h i h1
  · exact .inr (Nat.le_trans hm h1)
theorem Fr.le {n m : Nat} {u v : Value} (h : Fr m u v) (hm : n ≤ m) : Fr n u v := fun i hi => (h i hi).imp id (Nat.le_trans hm)
/-- Two that share no block. -/
def Apt (u v : Value) : Prop := ∀ k, u.ownBlock = some k → v.ownBlock ≠ some k
theorem Apt.next {n : Nat} {u v v' : Value} (ha : Apt u v) (hu : ∀ k, u.ownBlock = some k → k < n) (hx : Fr n v v') : Apt u v' := fun k hk e => by
  rcases hx k e with h | h
  · exact ha k hk h
  · have := hu k hk; omega
theorem Apt.symm {u v : Value} (h : Apt u v) : Apt v u := fun k hk e => h k e hk

theorem wpList_append_rw {w : World} {ops : Array Oper} {rest : List Oper} {o : Oper} {a : Act} {Q : Exit → Act → World → Prop} (hgd : o.guard = none) (s x : Operand) (ho : o.op = .call { callee := .builtin .append, args := #[s, x], argTypes := #[31, 31] })
    (B : Nat) (v : Value) (ps : Ps) (hs : a.eval s = v) (hown : Rw w B v ps) (v2 : Value) (qs : Ps) (hx : a.eval x = v2) (h2 : Sr w B v2 qs) (hlen : ps.length + qs.length ≤ 1000000) (hbase : B ≤ w.heap.size)
    (h : ∀ v' w', Rw w' B v' (ps ++ qs) → w.grownBy w' v.ownBlock → Fr w.heap.size v v' → wpList Try.prog ops Q rest (a.put o.dst v') w') : wpList Try.prog ops Q (o :: rest) a w := by
  obtain ⟨i0, hi, hz0, hz1, hz2⟩ := info_parts Try.infoS
  have hQ := h2
  obtain ⟨b, off, cap, a2, rfl, hcap, hn, ha, hc, hl, hb⟩ := h2
  rcases a2 with _ | ad
  · obtain rfl : qs = [] := List.length_eq_zero_iff.1 (by have := hn rfl; omega)
    obtain rfl : cap = 0 := hn rfl
    refine wpList_append_own_none hgd s x 31 ho B 40 i0 1 Try.underlying31 hi v ps.length (hd ps) hs hown.1 hx ?_
    exact h v w (by rw [List.append_nil]; exact hown) (grownRefl _ _) (Fr.refl _ _)
  · refine wpList_append_own_at _ hgd s x 31 ho B 40 i0 _ 1 24 Try.underlying31 hi hz0 hz1 hz2 rfl (by decide) v ps.length (hd ps) hs hown.1 ad qs.length cap (hd qs) hx (by rw [hd_len, Nat.mul_one]) (fun j u hu => ?_) (hd_one _) (by unfold maxLen; omega) (by omega) hbase ?_
    · simp only [hd, List.getElem?_map, Option.map_eq_some_iff] at hu
      obtain ⟨q, hq, rfl⟩ := hu
      have h0 : 0 < qs.length := by have := (List.getElem?_eq_some_iff.1 hq).1; omega
      obtain rfl := Option.some.inj (ha h0)
      rw [show (⟨b, off, none⟩ : Addr).add j = ⟨b, off + j, none⟩ from by unfold Addr.add; split <;> simp_all]
      exact hc j q hq
    · intro v' w' ho' hg _ hat
      have ht : Tch (fun k => v.ownBlock = some k) w w' := Tch.ofGrown hg fun k hk => hk
      have hS : ∀ k, v.ownBlock = some k → B ≤ k ∧ ¬ T8 w k := fun k hk => ⟨(hown.blk hk).1, (hown.blk hk).2.2⟩
      refine h v' w' ⟨by rw [List.length_append, hd_append]; exact ho', fun p hp => ?_⟩ hg fun k hk => ?_
      · rcases List.mem_append.1 hp with hp | hp
        · exact (hown.2 p hp).tch ht hS
        · exact (hb p hp).tch ht hS
      · rcases hat with e | e
        · exact .inl (e ▸ hk)
        · rw [e] at hk; cases hk; exact .inr (Nat.le_refl _)

/-- The same, as one step of a region that draws its order. -/
theorem step_append_rw {ops : Array Oper} {o : Oper} {a : Act} {w : World} {K : Act → World → Prop} {Q : Exit → Act → World → Prop} {E : Prop} (hgd : o.guard = none) (s x : Operand) (ho : o.op = .call { callee := .builtin .append, args := #[s, x], argTypes := #[31, 31] })
    (B : Nat) (v : Value) (ps : Ps) (hs : a.eval s = v) (hown : Rw w B v ps) (ad : Addr) (m c : Nat) (qs : Ps) (hx : a.eval x = .slice (some ad) m c) (h2 : Sr w B (.slice (some ad) m c) qs) (hlen : ps.length + qs.length ≤ 1000000) (hbase : B ≤ w.heap.size)
    (h : ∀ v' w', Rw w' B v' (ps ++ qs) → w.grownBy w' v.ownBlock → Fr w.heap.size v v' → K (a.put o.dst v') w') : if Region.wanted o (yielded ops a.tmps) = true then Oper.wp Try.prog o a w K Q else E := by
  have hw : Region.wanted o (yielded ops a.tmps) = true := by simp [Region.wanted, hgd]
  rw [if_pos hw]
  obtain ⟨i0, hi, hz0, hz1, hz2⟩ := info_parts Try.infoS
  obtain ⟨b, off, cap, a2, e, hcap, hn, ha, hc, hl, hb⟩ := h2
  injection e with e1 e2 e3
  subst e1 e2 e3
  obtain ⟨v', w', hr, ho', hg, _, hat⟩ := run_append_own_at (P := Try.prog) w B 31 o.type 40 i0 _ 1 24 Try.underlying31 hi hz0 hz1 hz2 rfl (by decide) v ps.length (hd ps) hown.1 ad qs.length c (hd qs) (by rw [hd_len, Nat.mul_one]) (fun j u hu => by
    simp only [hd, List.getElem?_map, Option.map_eq_some_iff] at hu
    obtain ⟨q, hq, rfl⟩ := hu
    have h0 : 0 < qs.length := by have := (List.getElem?_eq_some_iff.1 hq).1; omega
    obtain rfl := Option.some.inj (ha h0)
    rw [show (⟨b, off, none⟩ : Addr).add j = ⟨b, off + j, none⟩ from by unfold Addr.add; split <;> simp_all]
    exact hc j q hq) (hd_one _) (by unfold maxLen; omega) (by omega) hbase
  have ht : Tch (fun k => v.ownBlock = some k) w w' := Tch.ofGrown hg fun k hk => hk
  have hS : ∀ k, v.ownBlock = some k → B ≤ k ∧ ¬ T8 w k := fun k hk => ⟨(hown.blk hk).1, (hown.blk hk).2.2⟩
  unfold Oper.wp execOp
  simp only [ho, resolve, invoke, builtin, Sem.run_bind, Sem.run_pure, Result.andThen_ok, List.map_toArray, List.map_cons, List.map_nil, hs, hx, hr]
  refine h v' w' ⟨by rw [List.length_append, hd_append]; exact ho', fun p hp => ?_⟩ hg fun k hk => ?_
  · rcases List.mem_append.1 hp with hp | hp
    · exact (hown.2 p hp).tch ht hS
    · exact (hb p hp).tch ht hS
  · rcases hat with e | e
    · exact .inl (e ▸ hk)
    · rw [e] at hk; cases hk; exact .inr (Nat.le_refl _)

/-- A net, its frames' row. -/
def NetA (T : TypeId) (w : World) (B p : Nat) (room : Int) (v : Value) (lost : Int) (ps : Ps) : Prop := Tri T w p room v lost ∧ Rw w B v ps ∧ B ≤ p
theorem Tri.off {T : TypeId} {w : World} {p B : Nat} {room s : Int} {v u : Value} {ps : Ps} (h : Tri T w p room v s) (hT : T ≠ 40) (ho : Rw w B u ps) : u.ownBlock ≠ some p := by
  rcases ho.1.2 with ⟨rfl, _⟩ | ⟨g, cap, cur, rfl, _, hg, _⟩
  · simp [Value.ownBlock]
  · intro e
    simp [Value.ownBlock] at e
    subst e
    rw [h] at hg
    injection hg with h1
    injection h1 with h2 h3
    exact hT h3
theorem NetA.on {T : TypeId} {w w' : World} {B p : Nat} {room lost : Int} {v : Value} {ps : Ps} (h : NetA T w B p room v lost ps) (hb : Below w.heap.size w w') : NetA T w' B p room v lost ps :=
  ⟨obOn h.1 hb (Array.getElem?_eq_some_iff.1 h.1).1, h.2.1.on hb, h.2.2⟩
/-- What an act turns: the net's block, its row's block. -/
def Nb (p : Nat) (v : Value) (k : Nat) : Prop := k = p ∨ v.ownBlock = some k
theorem NetA.nb {T : TypeId} {w : World} {B p : Nat} {room lost : Int} {v : Value} {ps : Ps} (h : NetA T w B p room v lost ps) (hT : T ≠ 5) : ∀ k, Nb p v k → B ≤ k ∧ ¬ T8 w k := by
  rintro k (rfl | hk)
  · exact ⟨h.2.2, not8 h.1 hT⟩
  · exact ⟨(h.2.1.blk hk).1, (h.2.1.blk hk).2.2⟩
theorem NetA.nlt {T : TypeId} {w : World} {B p : Nat} {room lost : Int} {v : Value} {ps : Ps} (h : NetA T w B p room v lost ps) : ∀ k, Nb p v k → k < w.heap.size := by
  rintro k (rfl | hk)
  · exact (Array.getElem?_eq_some_iff.1 h.1).1
  · exact (h.2.1.blk hk).2.1
/-- What an act leaves of a net. -/
def LeftA (T : TypeId) (w w' : World) (B p : Nat) (room : Int) (v : Value) (lost : Int) (ls : List (List UInt8)) : Prop :=
  ∃ v' ps, NetA T w' B p room v' lost ps ∧ bs ps = ls ∧ Tch (Nb p v) w w' ∧ Fr w.heap.size v v'
end Go.Proofs.Ytcfkifiejojciaa
