import Derived.Test.YtogoibigabpkhaaGreatG05
/- The document's PutCmds and PutValue: commands' bytes, a value's. -/

namespace Go.Proofs.YtogoibigabpkhaaGreat
set_option linter.unusedVariables false
open Go.RowKit
open Go.Lib (hid)

def ints (l : List Int) : List Value := l.map (Value.int .i64)
theorem ints_append (a b : List Int) : ints (a ++ b) = ints a ++ ints b := by simp [ints]
theorem ints_len (a : List Int) : (ints a).length = a.length := by simp [ints]
theorem ints_one (l : List Int) : ∀ u ∈ ints l, u.oneCell' = true := by
  intro u hu; simp [ints] at hu; obtain ⟨b, _, rfl⟩ := hu; rfl
abbrev OwnN (w : World) (B : Nat) (v : Value) (l : List Int) : Prop := w.ownsRow B 3 1 v l.length (ints l)
theorem OwnN.sl {w : World} {B : Nat} {v : Value} {l : List Int} (h : OwnN w B v l) : SlN w v l := by
  have hl := h.lt
  rcases h.2 with ⟨rfl, h0⟩ | ⟨g, cap, cur, rfl, hb, hg, hn, hm, hs, ht⟩
  · obtain rfl := List.length_eq_zero_iff.1 h0
    exact ⟨0, 0, 0, none, rfl, fun h => absurd h (by simp), fun j x hx => by simp at hx, fun h => absurd h (by simp)⟩
  · refine ⟨g, 0, cap, _, rfl, fun _ => rfl, fun j x hx => ?_, fun _ => (hl g rfl).2⟩
    have hj := (List.getElem?_eq_some_iff.1 hx).1
    rw [Nat.zero_add, h.cellAt j (by omega)]
    simp [ints, hx]
theorem own_below {w w' : World} {B C : Nat} {e : TypeId} {size : Nat} {v : Value} {n : Nat} {xs : List Value} (h : w.ownsRow B e size v n xs) (hb : Below C w w') (hC : ∀ k, v.ownBlock = some k → k < C) : w'.ownsRow B e size v n xs := by
  refine ⟨h.1, ?_⟩
  rcases h.2 with h2 | ⟨g, cap, cur, rfl, h1, hg, r⟩
  · exact .inl h2
  · exact .inr ⟨g, cap, cur, rfl, h1, by rw [hb.block g (hC g rfl)]; exact hg, r⟩
theorem OwnN.lit (w : World) (x : Int) : OwnN (w.alloc (.cells #[.int .i64 x] 3)) w.heap.size (.slice (some ⟨w.heap.size, 0, none⟩) 1 1) [x] :=
  ⟨rfl, .inr ⟨w.heap.size, 1, _, rfl, Nat.le_refl _, heap_alloc_new w _, Nat.le_refl _, by unfold maxLen; omega, rfl, rfl⟩⟩
theorem OwnN.asSlice {w : World} {B : Nat} {v : Value} {l : List Int} (h : OwnN w B v l) : ∃ (g : Option Addr) (cap n : Nat), v = .slice g n cap ∧ n = l.length := by
  rcases h.2 with ⟨rfl, h0⟩ | ⟨g, cap, cur, rfl, _⟩
  · exact ⟨none, 0, 0, rfl, h0.symm⟩
  · exact ⟨_, cap, _, rfl, rfl⟩

theorem ints_cells {w : World} {g : Nat} {l : List Int} (h : ∀ (j : Nat) x, l[j]? = some x → w.cell? ⟨g, j, none⟩ = some (.int .i64 x)) : ∀ (j : Nat) u, (ints l)[j]? = some u → w.cell? ((⟨g, 0, none⟩ : Addr).add j) = some u := fun j u hu => by
  simp only [ints, List.getElem?_map, Option.map_eq_some_iff] at hu
  obtain ⟨x, hx, rfl⟩ := hu
  rw [show (⟨g, 0, none⟩ : Addr).add j = ⟨g, j, none⟩ from by unfold Addr.add; split <;> simp_all]
  exact h j x hx
theorem OwnN.grows {w W0 w1 : World} {B n : Nat} {v v' : Value} {a b : List Int} (hB : Below B w W0) (hsz : B ≤ W0.heap.size) (hlt : ∀ k, v.ownBlock = some k → B ≤ k)
    (hown' : w1.ownsRow B 3 1 v' n (ints a ++ ints b)) (hn : n = a.length + b.length) (hg : W0.grownBy w1 v.ownBlock) : OwnN w1 B v' (a ++ b) ∧ Below B w w1 :=
  ⟨by unfold OwnN; rw [ints_append, List.length_append, ← hn]; exact hown', hB.grown hg hsz hlt⟩
def putCE (cs : List C7) : Int := if cs.all C7.ok = true ∧ cs.length ≤ 1024 then 0 else 1
def putCB (cs : List C7) : List UInt8 := if cs.all C7.ok = true ∧ cs.length ≤ 1024 then cmdsBytes cs else []
theorem putC_no {cs : List C7} (h : ¬ (cs.all C7.ok = true ∧ cs.length ≤ 1024)) : putCE cs = 1 ∧ putCB cs = [] := by unfold putCE putCB; rw [if_neg h, if_neg h]; exact ⟨rfl, rfl⟩
theorem putC_ok {cs : List C7} (h : cs.all C7.ok = true) (hl : cs.length ≤ 1024) : putCE cs = 0 ∧ putCB cs = cmdsBytes cs := by unfold putCE putCB; rw [if_pos ⟨h, hl⟩, if_pos ⟨h, hl⟩]; exact ⟨rfl, rfl⟩

def putVE (t : Int) (cs : List C7) : Int := if setB cs = true ∧ in40 t = true then 0 else 1
def putVB (t : Int) (cs : List C7) : List UInt8 := if setB cs = true ∧ in40 t = true then valueBytes t cs else []
theorem putV_no {t : Int} {cs : List C7} (h : ¬ (setB cs = true ∧ in40 t = true)) : putVE t cs = 1 ∧ putVB t cs = [] := by unfold putVE putVB; rw [if_neg h, if_neg h]; exact ⟨rfl, rfl⟩
theorem putV_ok {t : Int} {cs : List C7} (h : setB cs = true) (ht : in40 t = true) : putVE t cs = 0 ∧ putVB t cs = valueBytes t cs := by unfold putVE putVB; rw [if_pos ⟨h, ht⟩, if_pos ⟨h, ht⟩]; exact ⟨rfl, rfl⟩
end Go.Proofs.YtogoibigabpkhaaGreat
/- The document's PutValue: a value's bytes. -/
namespace Go.Proofs.YtogoibigabpkhaaGreat
set_option linter.unusedVariables false
open Go.RowKit
open Go.Lib (hid)

theorem cmdsBytes_len : ∀ (l : List C7), l.all C7.ok = true → l.length ≤ 1024 → (cmdsBytes l).length ≤ 6 + 42 * l.length := fun l h hl => by
  have := (numsAll_put h hl).2
  rw [← this, (put_ok (l := (l.length : Int) :: numsAll l) ?_).2]
  · have hh := putAll_len ((l.length : Int) :: numsAll l) ?_
    · rw [List.length_cons, numsAll_len] at hh; omega
    all_goals
      rw [List.all_cons, in40_true.2 (by omega), Bool.true_and, List.all_eq_true]
      intro x hx
      unfold numsAll at hx
      obtain ⟨c, hc, hxc⟩ := List.mem_flatMap.1 hx
      exact List.all_eq_true.1 (C7.nums_ok (List.all_eq_true.1 h c hc)) x hxc
  · rw [List.all_cons, in40_true.2 (by omega), Bool.true_and, List.all_eq_true]
    intro x hx
    unfold numsAll at hx
    obtain ⟨c, hc, hxc⟩ := List.mem_flatMap.1 hx
    exact List.all_eq_true.1 (C7.nums_ok (List.all_eq_true.1 h c hc)) x hxc

theorem OwnB.some {w : World} {B : Nat} {v : Value} {l : List UInt8} (h : OwnB w B v l) (hl : l ≠ []) : ∃ g cap, v = .slice (Option.some ⟨g, 0, none⟩) l.length cap := by
  rcases h.shape with ⟨_, e⟩ | ⟨g, cap, e, _⟩
  · exact absurd e hl
  · exact ⟨g, cap, e⟩
theorem cmdsBytes_ne (l : List C7) : cmdsBytes l ≠ [] := fun h => oneN_ne _ (List.append_eq_nil_iff.1 h).1

end Go.Proofs.YtogoibigabpkhaaGreat
/- A reader, the program's or the document's: what stands in its two cells. -/
namespace Go.Proofs.YtogoibigabpkhaaGreat
set_option linter.unusedVariables false
open Go.RowKit
open Go.Lib (hid)

/-- Bytes behind an address. -/
def SlB (w : World) (v : Value) (l : List UInt8) : Prop :=
  ∃ (b o cap : Nat) (a : Option Addr), v = .slice a l.length cap ∧ (a = none → cap = 0) ∧ l.length ≤ cap ∧ (0 < l.length → a = some ⟨b, o, none⟩) ∧ (∀ (j : Nat) x, l[j]? = some x → w.cell? ⟨b, o + j, none⟩ = some (.int .u8 x.toNat)) ∧ (0 < l.length → b < w.heap.size)
theorem SlB.nil (w : World) : SlB w (.slice none 0 0) [] := ⟨0, 0, 0, none, rfl, fun _ => rfl, Nat.le_refl _, fun h => absurd h (by simp), fun j x hx => by simp at hx, fun h => absurd h (by simp)⟩
/-- The reader at block p: its bytes lie in a block of which F holds, its own is none of these. -/
def Rd (T : TypeId) (F : Nat → Prop) (w : World) (p : Nat) (s : St) : Prop :=
  ∃ v, w.heap[p]? = some (.cells #[v, .int .i64 s.2] T (0, 0)) ∧ SlB w v s.1 ∧ (∀ k, v.ownBlock = some k → F k) ∧ ¬ F p
theorem SlB.same {w w' : World} {v : Value} {l : List UInt8} (h : SlB w v l) (hs : w.heap.size ≤ w'.heap.size) (hb : ∀ k, v.ownBlock = some k → k < w.heap.size → w'.heap[k]? = w.heap[k]?) : SlB w' v l := by
  obtain ⟨b, o, cap, a, rfl, hn, hc, ha, hcl, hl⟩ := h
  refine ⟨b, o, cap, a, rfl, hn, hc, ha, fun j x hx => ?_, fun h0 => by have := hl h0; omega⟩
  have h0 : 0 < l.length := by have := (List.getElem?_eq_some_iff.1 hx).1; omega
  obtain rfl := ha h0
  have := hb b rfl (hl h0)
  rw [← hcl j x hx]
  simp only [World.cell?, this]
theorem SlB.on {w w' : World} {v : Value} {l : List UInt8} (h : SlB w v l) (hb : Below w.heap.size w w') : SlB w' v l := h.same hb.size fun k _ hk => hb.block k hk
theorem Rd.lt {T : TypeId} {F : Nat → Prop} {w : World} {p : Nat} {s : St} (h : Rd T F w p s) : p < w.heap.size := by
  obtain ⟨v, hp, _⟩ := h
  exact (Array.getElem?_eq_some_iff.1 hp).1
theorem Rd.out {T : TypeId} {F : Nat → Prop} {w : World} {p : Nat} {s : St} (h : Rd T F w p s) : ¬ F p := by
  obtain ⟨v, hp, _, _, hf⟩ := h
  exact hf
/-- What another reader's call does leaves this one alone. -/
theorem Rd.kept {T : TypeId} {F : Nat → Prop} {w w' : World} {p q : Nat} {s : St} (h : Rd T F w p s) (hg : w.grownBy w' (some q)) (hpq : p ≠ q) (hq : ¬ F q) : Rd T F w' p s := by
  have hl := h.lt
  obtain ⟨v, hp, hs, hF, hf⟩ := h
  refine ⟨v, ?_, hs.same hg.size fun k hk hlt => hg.block k hlt fun e => hq (by cases e; exact hF _ hk), hF, hf⟩
  rw [hg.block p hl (fun e => hpq (by cases e; rfl))]; exact hp
theorem Rd.on {T : TypeId} {F : Nat → Prop} {w w' : World} {p : Nat} {s : St} (h : Rd T F w p s) (hb : Below w.heap.size w w') : Rd T F w' p s := by
  have hl := h.lt
  obtain ⟨v, hp, hs, hF, hf⟩ := h
  exact ⟨v, by rw [hb.block p hl]; exact hp, hs.on hb, hF, hf⟩
theorem Rd.cells {T : TypeId} {F : Nat → Prop} {w : World} {p : Nat} {s : St} (h : Rd T F w p s) : ∃ v, w.heap[p]? = some (.cells #[v, .int .i64 s.2] T (0, 0)) ∧ p < w.heap.size ∧ w.cell? ⟨p, 0, none⟩ = some v ∧ w.cell? ⟨p, 1, none⟩ = some (.int .i64 s.2) ∧ w.frozen? ⟨p, 0, none⟩ = false ∧ w.frozen? ⟨p, 1, none⟩ = false ∧ SlB w v s.1 ∧ (∀ k, v.ownBlock = some k → F k) := by
  obtain ⟨v, hp, hs, hF, hf⟩ := h
  exact ⟨v, hp, (Array.getElem?_eq_some_iff.1 hp).1, by simp [World.cell?, hp], by simp [World.cell?, hp], by simp [World.frozen?, hp], by simp [World.frozen?, hp], hs, hF⟩

theorem set0 {w : World} {p : Nat} {a b x : Value} {t : TypeId} (h : w.heap[p]? = some (.cells #[a, b] t (0, 0))) : (w.setCell ⟨p, 0, none⟩ x).heap[p]? = some (.cells #[x, b] t (0, 0)) := by
  show (w.heap.modify p _)[p]? = _
  obtain ⟨hlt, hk⟩ := Array.getElem?_eq_some_iff.1 h
  rw [Array.getElem?_eq_getElem (by rw [Array.size_modify]; exact hlt), Array.getElem_modify_self, hk]
  rfl
theorem set1 {w : World} {p : Nat} {a b x : Value} {t : TypeId} (h : w.heap[p]? = some (.cells #[a, b] t (0, 0))) : (w.setCell ⟨p, 1, none⟩ x).heap[p]? = some (.cells #[a, x] t (0, 0)) := by
  show (w.heap.modify p _)[p]? = _
  obtain ⟨hlt, hk⟩ := Array.getElem?_eq_some_iff.1 h
  rw [Array.getElem?_eq_getElem (by rw [Array.size_modify]; exact hlt), Array.getElem_modify_self, hk]
  rfl
theorem grownSet (w : World) (a : Addr) (u : Value) : w.grownBy (w.setCell a u) (some a.block) :=
  ⟨rfl, rfl, rfl, by simp [World.setCell], fun k _ hk => by
    have hne : a.block ≠ k := fun e => hk (by rw [e])
    simp [World.setCell, Array.getElem?_modify, hne]⟩
theorem grownSet2 (w : World) (p : Nat) (x y : Value) : w.grownBy ((w.setCell ⟨p, 0, none⟩ x).setCell ⟨p, 1, none⟩ y) (some p) := by
  refine ⟨rfl, rfl, rfl, by simp [World.setCell], fun k hk hne => ?_⟩
  rw [(grownSet _ ⟨p, 1, none⟩ y).block k (by simpa [World.setCell] using hk) hne, (grownSet w ⟨p, 0, none⟩ x).block k hk hne]

theorem grownSet2' (w : World) (p : Nat) (x y : Value) : w.grownBy ((w.setCell ⟨p, 1, none⟩ y).setCell ⟨p, 0, none⟩ x) (some p) := by
  refine ⟨rfl, rfl, rfl, by simp [World.setCell], fun k hk hne => ?_⟩
  rw [(grownSet _ ⟨p, 0, none⟩ x).block k (by simpa [World.setCell] using hk) hne, (grownSet w ⟨p, 1, none⟩ y).block k hk hne]
theorem grownRefl (w : World) (row : Option Nat) : w.grownBy w row := ⟨rfl, rfl, rfl, Nat.le_refl _, fun _ _ _ => rfl⟩
theorem grownTrans {a b c : World} {row : Option Nat} (h : a.grownBy b row) (k : b.grownBy c row) : a.grownBy c row :=
  ⟨k.os.trans h.os, k.tape.trans h.tape, k.output.trans h.output, Nat.le_trans h.size k.size, fun i hi hn => (k.block i (Nat.lt_of_lt_of_le hi h.size) hn).trans (h.block i hi hn)⟩
theorem grownBelow {a b : World} (h : Below a.heap.size a b) (row : Option Nat) : a.grownBy b row := ⟨h.os, h.tape, h.output, h.size, fun k hk _ => h.block k hk⟩
theorem grownAlloc {a b : World} {row : Option Nat} (h : a.grownBy b row) (o : Obj) : a.grownBy (b.alloc o) row := grownTrans h (World.grownBy_alloc b o row)
theorem grownDrew {a b : World} {row : Option Nat} (h : a.grownBy b row) : a.grownBy b.drew row := ⟨h.os, h.tape, h.output, h.size, h.block⟩

theorem numGo_cut (f i u n : Nat) : numGo (f + 1) i u n [] = .cut := rfl
theorem numGo_hi {f i u n : Nat} {b : UInt8} {bs : List UInt8} (h : ¬ b.toNat < 128) : numGo (f + 1) i u n (b :: bs) = numGo f (i + 1) (128 * u) (n + b.toNat % 128 * u) bs := by rw [numGo, if_neg h]
theorem numGo_lo {f i u n : Nat} {b : UInt8} {bs : List UInt8} (h : b.toNat < 128) (h2 : ¬ ((0 < i ∧ b.toNat = 0) ∨ 1099511627776 < n + b.toNat * u)) : numGo (f + 1) i u n (b :: bs) = .ok (n + b.toNat * u) bs := by rw [numGo, if_pos h, if_neg h2]
theorem numGo_form {f i u n : Nat} {b : UInt8} {bs : List UInt8} (h : b.toNat < 128) (h2 : (0 < i ∧ b.toNat = 0) ∨ 1099511627776 < n + b.toNat * u) : numGo (f + 1) i u n (b :: bs) = .form := by rw [numGo, if_pos h, if_pos h2]
theorem numS_cut {s : St} (h : s.2 = 0) (hg : numOf s.1 = .cut) : numS s = (0, ([], 3)) := by unfold numS; rw [if_pos h, hg]
theorem numS_form {s : St} (h : s.2 = 0) (hg : numOf s.1 = .form) : numS s = (0, ([], 2)) := by unfold numS; rw [if_pos h, hg]
theorem numS_got {s : St} {n : Nat} {r : List UInt8} (h : s.2 = 0) (hg : numOf s.1 = .ok n r) : numS s = (n, (r, 0)) := by unfold numS; rw [if_pos h, hg]
theorem drop_at {l : List UInt8} {k : Nat} {x : UInt8} (h : l[k]? = some x) : l.drop k = x :: l.drop (k + 1) := by
  obtain ⟨hlt, rfl⟩ := List.getElem?_eq_some_iff.1 h
  exact List.drop_eq_getElem_cons hlt
theorem SlB.drop {w : World} {b o cap : Nat} {l : List UInt8} (k : Nat) (hk : k ≤ l.length) (hlen : 0 < l.length) (hc : ∀ (j : Nat) x, l[j]? = some x → w.cell? ⟨b, o + j, none⟩ = some (.int .u8 x.toNat)) (hn : l.length ≤ cap) (hb : b < w.heap.size) :
    SlB w (.slice (some ⟨b, o + k, none⟩) (l.length - k) (cap - k)) (l.drop k) := by
  refine ⟨b, o + k, cap - k, _, by rw [List.length_drop], by simp, by rw [List.length_drop]; omega, fun _ => rfl, fun j x hx => ?_, fun _ => hb⟩
  rw [List.getElem?_drop] at hx
  rw [Nat.add_assoc]; exact hc _ x hx

theorem cellSet {w : World} {p b j : Nat} {x : Value} (hb : b < w.heap.size) (hne : b ≠ p) : (w.setCell ⟨p, 0, none⟩ x).cell? ⟨b, j, none⟩ = w.cell? ⟨b, j, none⟩ := by
  have := (grownSet w ⟨p, 0, none⟩ x).block b hb (by simpa using hne)
  simp only [World.cell?, this]
theorem retI {a b : Int} (h : a = b) : Ending.returned (.int .i64 a) = .returned (.int .i64 b) := by rw [h]
theorem SlB.nothing {w : World} {a : Option Addr} {n c : Nat} {l : List UInt8} (hl : l.length = 0) (hn : n = 0) (hc : c = 0) : SlB w (.slice a n c) l := by
  subst hn hc
  obtain rfl := List.length_eq_zero_iff.1 hl
  exact ⟨0, 0, 0, a, rfl, fun _ => rfl, Nat.le_refl _, fun h => absurd h (by simp), fun j x hx => by simp at hx, fun h => absurd h (by simp)⟩
theorem SlB.of {w : World} {v v' : Value} {l : List UInt8} (h : SlB w v l) (e : v' = v) : SlB w v' l := e ▸ h

end Go.Proofs.YtogoibigabpkhaaGreat
/- The document's reader: fail, Num. -/
namespace Go.Proofs.YtogoibigabpkhaaGreat
set_option linter.unusedVariables false
open Go.RowKit
open Go.Lib (hid)

end Go.Proofs.YtogoibigabpkhaaGreat
/- Cells that a call makes for itself, beside a reader. -/
namespace Go.Proofs.YtogoibigabpkhaaGreat
set_option linter.unusedVariables false
open Go.RowKit
open Go.Lib (hid)

theorem Rd.keptN {T : TypeId} {F : Nat → Prop} {w w' : World} {p : Nat} {s : St} {row : Option Nat} (h : Rd T F w p s) (hg : w.grownBy w' row) (hr : ∀ k, row = some k → k ≠ p ∧ ¬ F k) : Rd T F w' p s := by
  have hl := h.lt
  obtain ⟨v, hp, hs, hF, hf⟩ := h
  refine ⟨v, ?_, hs.same hg.size fun k hk hlt => hg.block k hlt fun e => (hr k e.symm).2 (hF _ hk), hF, hf⟩
  rw [hg.block p hl (fun e => (hr p e.symm).1 rfl)]; exact hp
theorem Rd.alloc {T : TypeId} {F : Nat → Prop} {w : World} {p : Nat} {s : St} (h : Rd T F w p s) (o : Obj) : Rd T F (w.alloc o) p s := h.on ((Below.refl _ w).alloc (Nat.le_refl _) o)
theorem Rd.drewN {T : TypeId} {F : Nat → Prop} {w : World} {p : Nat} {s : St} (h : Rd T F w p s) (n : Nat) : Rd T F (w.drewN n) p s := h.on (Below.drewN' (Below.refl _ w) n)
theorem grownThen {a b c : World} {row row' : Option Nat} (h : a.grownBy b row) (k : b.grownBy c row') (hr : ∀ j, row' = some j → a.heap.size ≤ j) : a.grownBy c row :=
  ⟨k.os.trans h.os, k.tape.trans h.tape, k.output.trans h.output, Nat.le_trans h.size k.size, fun i hi hn => (k.block i (Nat.lt_of_lt_of_le hi h.size) (fun e => by have := hr i e.symm; omega)).trans (h.block i hi hn)⟩
theorem grownUnder {a b c : World} {row : Option Nat} (h : a.grownBy b row) (k : Below a.heap.size b c) : a.grownBy c row :=
  ⟨k.os.trans h.os, k.tape.trans h.tape, k.output.trans h.output, Nat.le_trans h.size k.size, fun i hi hn => (k.block i hi).trans (h.block i hi hn)⟩
theorem grownSet7 (w : World) (q : Nat) (a b c d e f g : Value) : w.grownBy (((((((w.setCell ⟨q, 0, none⟩ a).setCell ⟨q, 1, none⟩ b).setCell ⟨q, 2, none⟩ c).setCell ⟨q, 3, none⟩ d).setCell ⟨q, 4, none⟩ e).setCell ⟨q, 5, none⟩ f).setCell ⟨q, 6, none⟩ g) (some q) :=
  grownTrans (grownTrans (grownTrans (grownTrans (grownTrans (grownTrans (grownSet _ _ _) (grownSet _ _ _)) (grownSet _ _ _)) (grownSet _ _ _)) (grownSet _ _ _)) (grownSet _ _ _)) (grownSet _ _ _)
theorem setAt {w : World} {q j : Nat} {vs : Array Value} {x : Value} {t : TypeId} (h : w.heap[q]? = some (.cells vs t (0, 0))) : (w.setCell ⟨q, j, none⟩ x).heap[q]? = some (.cells (vs.setIfInBounds j x) t (0, 0)) := by
  show (w.heap.modify q _)[q]? = _
  obtain ⟨hlt, hk⟩ := Array.getElem?_eq_some_iff.1 h
  rw [Array.getElem?_eq_getElem (by rw [Array.size_modify]; exact hlt), Array.getElem_modify_self, hk]
  rfl
theorem cellAt' {w : World} {q : Nat} {vs : Array Value} {t : TypeId} (h : w.heap[q]? = some (.cells vs t (0, 0))) (j : Nat) : w.cell? ⟨q, j, none⟩ = vs[j]? := cell_of_row w q j vs t (0, 0) h
theorem frozenAt {w : World} {q : Nat} {vs : Array Value} {t : TypeId} (h : w.heap[q]? = some (.cells vs t (0, 0))) (j : Nat) : w.frozen? ⟨q, j, none⟩ = false := by simp [World.frozen?, h]
theorem heapOf {w w' : World} {q r : Nat} {o : Obj} (h : w.heap[q]? = some o) (hg : w.grownBy w' (some r)) (hne : q ≠ r) : w'.heap[q]? = some o := by
  rw [hg.block q (Array.getElem?_eq_some_iff.1 h).1 (fun e => hne (by cases e; rfl))]; exact h

theorem newOne {W : World} {x : Value} {T : TypeId} {g : Nat} (hg : g = W.heap.size) : ∀ (j : Nat) u, [x][j]? = some u → (W.alloc (.cells #[x] T)).cell? ((⟨g, 0, none⟩ : Addr).add j) = some u := by
  intro j u hj
  subst hg
  rw [show (⟨W.heap.size, 0, none⟩ : Addr).add j = ⟨W.heap.size, j, none⟩ from by unfold Addr.add; split <;> simp_all, World.cell?_alloc_new, List.getElem?_toArray]
  exact hj
/-- Seven numbers, one by one. -/
def rawSt (s : St) : Nat → St
  | 0 => s
  | k + 1 => (numS (rawSt s k)).2
def rawL (s : St) (k : Nat) : List Int := (List.range k).map fun j => ((numS (rawSt s j)).1 : Int)
theorem rawL_len (s : St) (k : Nat) : (rawL s k).length = k := by simp [rawL]
theorem rawL_next (s : St) (k : Nat) : rawL s (k + 1) = rawL s k ++ [((numS (rawSt s k)).1 : Int)] := by unfold rawL; rw [List.range_succ, List.map_append]; rfl
theorem raw_cmd (s : St) : rawL s 7 = (cmdRaw s).1.nums ∧ rawSt s 7 = (cmdRaw s).2 := ⟨rfl, rfl⟩
abbrev zero7 : Obj := .cells #[.int .i64 0, .int .i64 0, .int .i64 0, .int .i64 0, .int .i64 0, .int .i64 0, .int .i64 0] 40
theorem ownN_more {w : World} {B : Nat} {v : Value} {l : List Int} {x : Int} {n : Nat} (h : w.ownsRow B 3 1 v n (ints l ++ [.int .i64 x])) (hn : n = l.length + 1) : OwnN w B v (l ++ [x]) := by
  unfold OwnN
  rw [ints_append, List.length_append]
  subst hn
  exact h
theorem OwnN.cell {w : World} {B : Nat} {v : Value} {l : List Int} (h : OwnN w B v l) (h0 : 0 < l.length) : ∃ g cap, v = .slice (some ⟨g, 0, none⟩) l.length cap ∧ B ≤ g ∧ g < w.heap.size ∧ ∀ (j : Nat) x, l[j]? = some x → w.cell? ⟨g, j, none⟩ = some (.int .i64 x) := by
  have hl := h.lt
  rcases h.2 with ⟨rfl, e0⟩ | ⟨g, cap, cur, rfl, hb, hg, hn, hm, hs, ht⟩
  · omega
  · refine ⟨g, cap, rfl, hb, (hl g rfl).2, fun j x hx => ?_⟩
    have hj := (List.getElem?_eq_some_iff.1 hx).1
    rw [h.cellAt j (by omega)]
    simp [ints, hx]

theorem cmdS_err {s : St} (h : (cmdRaw s).2.2 ≠ 0) : cmdS s = (default, (cmdRaw s).2) := by unfold cmdS; dsimp only; rw [if_neg h]
theorem cmdS_yes {s : St} (h : (cmdRaw s).2.2 = 0) (h2 : (cmdRaw s).1.ok = true) : cmdS s = cmdRaw s := by unfold cmdS; dsimp only; rw [if_pos h, if_pos h2]
theorem cmdS_no {s : St} (h : (cmdRaw s).2.2 = 0) (h2 : (cmdRaw s).1.ok = false) : cmdS s = (default, ([], 2)) := by unfold cmdS; dsimp only; rw [if_pos h, if_neg (by rw [h2]; simp)]
end Go.Proofs.YtogoibigabpkhaaGreat
