import Derived.Test.YtmggggijamligaaRows
import Derived.WalkKit
import Derived.LoopTactic
import Derived.ProofKit
import Derived.Lib.Hide
import Derived.Deep.QuietTactic
import Derived.BigQuiet
import Derived.Outline
import Derived.Deep.Light
import Derived.Laws.AppendOwn
import Derived.Laws.AppendOwnNone
import Derived.Laws.OwnMore
import Derived.OwnWalk
import Derived.Laws.StructEq
namespace Go.Proofs.Ytmggggijamligaa
open Go.RowKit
def namedB (x : Int) : Bool := decide (16 ≤ x ∧ x < 4112 ∧ x % 16 ≤ 8)
def withinB (x g : Int) : Bool := decide (0 ≤ x ∧ x ≤ g)
theorem ret_bool {a b : Bool} (h : a = b) : Ending.returned (.bool a) = .returned (.bool b) := by rw [h]
abbrev two (a b : Int) : Value := .tuple #[.int .i64 a, .int .i64 b]
end Go.Proofs.Ytmggggijamligaa
namespace Go.Proofs.Ytmggggijamligaa
open Go.RowKit
end Go.Proofs.Ytmggggijamligaa
namespace Go.Proofs.Ytmggggijamligaa
open Go.RowKit
abbrev cmV (i k s t d p q : Int) : Value := .agg #[.int .i64 i, .int .i64 k, .int .i64 s, .int .i64 t, .int .i64 d, .int .i64 p, .int .i64 q]
def oneB (i k s t d p q : Int) : Bool :=
  namedB i && withinB s 3 &&
    (if k = 0 then t == 0 && withinB d 1 && withinB p 1048576 && withinB q 1048576
     else if k = 1 then namedB t && withinB d 0 && withinB p 0 && withinB q 0
     else if k = 2 then namedB t && withinB d 0 && withinB p 0 && withinB q 1048576
     else false)
theorem Below.drewN' {B : Nat} {a w : World} (h : Below B a w) (n : Nat) : Below B a (w.drewN n) := ⟨h.os, h.tape, h.output, h.size, h.block⟩
end Go.Proofs.Ytmggggijamligaa
namespace Go.Proofs.Ytmggggijamligaa
open Go.RowKit
end Go.Proofs.Ytmggggijamligaa
namespace Go.Proofs.Ytmggggijamligaa
open Go.RowKit
open Go.Lib (hid)
structure C7 where
  i : Int
  k : Int
  s : Int
  t : Int
  d : Int
  p : Int
  q : Int
abbrev C7.cells (c : C7) : List Value := [.int .i64 c.i, .int .i64 c.k, .int .i64 c.s, .int .i64 c.t, .int .i64 c.d, .int .i64 c.p, .int .i64 c.q]
def C7.ok (c : C7) : Bool := oneB c.i c.k c.s c.t c.d c.p c.q
def CmsAt (w : World) (b o : Nat) (cs : List C7) : Prop :=
  ∀ (j : Nat) c, cs[j]? = some c → ∀ (f : Nat) v, c.cells[f]? = some v → w.cell? ⟨b, o + (j * 7 + f), none⟩ = some v
theorem CmsAt.on {w w' : World} {b o B : Nat} {cs : List C7} (h : CmsAt w b o cs) (hb : Below B w w') (hB : b < B) : CmsAt w' b o cs := fun j c hc f v hv => by
  rw [hb.cell (p := ⟨b, o + (j * 7 + f), none⟩) hB]; exact h j c hc f v hv
theorem CmsAt.at {w : World} {b o : Nat} {cs : List C7} (h : CmsAt w b o cs) {j : Nat} {c : C7} (hc : cs[j]? = some c) :
    w.cell? ⟨b, o + j * 7, none⟩ = some (.int .i64 c.i) ∧ w.cell? ⟨b, o + j * 7 + 1, none⟩ = some (.int .i64 c.k) ∧ w.cell? ⟨b, o + j * 7 + 2, none⟩ = some (.int .i64 c.s) ∧ w.cell? ⟨b, o + j * 7 + 3, none⟩ = some (.int .i64 c.t) ∧
    w.cell? ⟨b, o + j * 7 + 4, none⟩ = some (.int .i64 c.d) ∧ w.cell? ⟨b, o + j * 7 + 5, none⟩ = some (.int .i64 c.p) ∧ w.cell? ⟨b, o + j * 7 + 6, none⟩ = some (.int .i64 c.q) :=
  ⟨h j c hc 0 _ rfl, h j c hc 1 _ rfl, h j c hc 2 _ rfl, h j c hc 3 _ rfl, h j c hc 4 _ rfl, h j c hc 5 _ rfl, h j c hc 6 _ rfl⟩
end Go.Proofs.Ytmggggijamligaa
namespace Go.Proofs.Ytmggggijamligaa
def C7.same (a b : C7) : Bool := a.i == b.i && a.k == b.k && a.s == b.s && a.t == b.t && a.d == b.d && a.p == b.p && a.q == b.q
theorem C7.same_iff {a b : C7} : a.same b = true ↔ a = b := by
  obtain ⟨a1, a2, a3, a4, a5, a6, a7⟩ := a
  obtain ⟨b1, b2, b3, b4, b5, b6, b7⟩ := b
  unfold C7.same
  simp [and_assoc]
theorem C7.same_no {a b : C7} : a.same b = false ↔ a ≠ b := by
  rw [Ne, ← C7.same_iff]; simp
instance instDecC7 : DecidableEq C7 := fun a b => decidable_of_iff (a.same b = true) C7.same_iff
instance instInhC7 : Inhabited C7 := ⟨⟨0, 0, 0, 0, 0, 0, 0⟩⟩
abbrev Rises (l : List C7) : Prop := l.Pairwise fun a b => a.i < b.i
theorem Rises.at {l : List C7} (h : Rises l) {a b : Nat} (hab : a < b) {x y : C7} (hx : l[a]? = some x) (hy : l[b]? = some y) : x.i < y.i := by
  obtain ⟨h1, rfl⟩ := List.getElem?_eq_some_iff.1 hx
  obtain ⟨h2, rfl⟩ := List.getElem?_eq_some_iff.1 hy
  exact List.pairwise_iff_getElem.1 h a b h1 h2 hab
theorem Rises.inj {l : List C7} (h : Rises l) {x y : C7} (hx : x ∈ l) (hy : y ∈ l) (hi : x.i = y.i) : x = y := by
  obtain ⟨a, ha⟩ := List.getElem?_of_mem hx
  obtain ⟨b, hb⟩ := List.getElem?_of_mem hy
  rcases Nat.lt_trichotomy a b with hab | hab | hab
  · have := h.at hab ha hb; omega
  · subst hab; rw [ha] at hb; exact Option.some.inj hb
  · have := h.at hab hb ha; omega
theorem Rises.one : ∀ {l m : List C7}, Rises l → Rises m → (∀ x, x ∈ l ↔ x ∈ m) → l = m
  | [], [], _, _, _ => rfl
  | [], y :: m, _, _, h => absurd ((h y).2 (List.mem_cons_self ..)) (by simp)
  | x :: l, [], _, _, h => absurd ((h x).1 (List.mem_cons_self ..)) (by simp)
  | x :: l, y :: m, hl, hm, h => by
    have hx := (h x).1 (List.mem_cons_self ..)
    have hy := (h y).2 (List.mem_cons_self ..)
    obtain ⟨hl1, hl2⟩ := List.pairwise_cons.1 hl
    obtain ⟨hm1, hm2⟩ := List.pairwise_cons.1 hm
    have hxy : x = y := by
      rcases List.mem_cons.1 hx with e | e
      · exact e
      · rcases List.mem_cons.1 hy with e' | e'
        · exact e'.symm
        · have := hm1 _ e; have := hl1 _ e'; omega
    subst hxy
    congr 1
    refine Rises.one hl2 hm2 fun z => ⟨fun hz => ?_, fun hz => ?_⟩
    · rcases List.mem_cons.1 ((h z).1 (List.mem_cons_of_mem _ hz)) with e | e
      · subst e; have := hl1 _ hz; omega
      · exact e
    · rcases List.mem_cons.1 ((h z).2 (List.mem_cons_of_mem _ hz)) with e | e
      · subst e; have := hm1 _ hz; omega
      · exact e
def Clash (cs : List C7) : Prop := ∃ x ∈ cs, ∃ y ∈ cs, x.i = y.i ∧ x ≠ y
def clashB (cs : List C7) : Bool := cs.any fun x => cs.any fun y => x.i == y.i && !x.same y
theorem clash_iff {cs : List C7} : clashB cs = true ↔ Clash cs := by
  unfold clashB Clash
  simp only [List.any_eq_true, Bool.and_eq_true, beq_iff_eq, Bool.not_eq_true', C7.same_no]
theorem take_snoc {cs : List C7} {k : Nat} {c : C7} (hc : cs[k]? = some c) : cs.take (k + 1) = cs.take k ++ [c] := by
  rw [List.take_add_one, hc]; rfl
abbrev Sorted7 (s : List C7) : Prop := s.Pairwise fun a b => a.i ≤ b.i
structure Upto (s : List C7) (k : Nat) (set : List C7) : Prop where
  rises : Rises set
  mem : ∀ x, x ∈ set ↔ x ∈ s.take k
  len : set.length ≤ k
  last : set[set.length - 1]? = (s.take k)[k - 1]?
theorem Upto.below {s : List C7} {k : Nat} {set : List C7} (h : Upto s k set) (hs : Sorted7 s) {c : C7} (hc : s[k]? = some c) : ∀ x ∈ set, x.i ≤ c.i := fun x hx => by
  obtain ⟨j, hj⟩ := List.getElem?_of_mem ((h.mem x).1 hx)
  obtain ⟨hjl, rfl⟩ := List.getElem?_eq_some_iff.1 hj
  obtain ⟨hk, rfl⟩ := List.getElem?_eq_some_iff.1 hc
  simp at hjl
  rw [List.getElem_take]
  exact List.pairwise_iff_getElem.1 hs j k (by omega) hk (by omega)
theorem Upto.lastLe {s : List C7} {k : Nat} {set : List C7} (h : Upto s k set) {d : C7} (hd : set[set.length - 1]? = some d) : ∀ x ∈ set, x.i ≤ d.i := fun x hx => by
  obtain ⟨j, hj⟩ := List.getElem?_of_mem hx
  have hjl := (List.getElem?_eq_some_iff.1 hj).1
  by_cases e : j = set.length - 1
  · subst e; rw [hj] at hd; rw [Option.some.inj hd]; omega
  · have := h.rises.at (show j < set.length - 1 by omega) hj hd; omega
theorem Upto.add {s : List C7} {k : Nat} {set : List C7} (h : Upto s k set) (hs : Sorted7 s) {c : C7} (hc : s[k]? = some c) (hn : ∀ d, set[set.length - 1]? = some d → d.i ≠ c.i) : Upto s (k + 1) (set ++ [c]) := by
  have lt : ∀ x ∈ set, x.i < c.i := fun x hx => by
    have h1 := h.below hs hc x hx
    have hl : 0 < set.length := List.length_pos_of_mem hx
    have hd : set[set.length - 1]? = some set[set.length - 1] := List.getElem?_eq_getElem (by omega)
    have h2 := h.lastLe hd x hx
    have h3 := h.below hs hc _ (List.mem_of_getElem? hd)
    have h4 := hn _ hd
    omega
  refine ⟨List.pairwise_append.2 ⟨h.rises, List.pairwise_singleton .., fun x hx y hy => by rw [List.mem_singleton] at hy; subst hy; exact lt x hx⟩, fun x => ?_, by have := h.len; simp; omega, ?_⟩
  · rw [take_snoc hc, List.mem_append, List.mem_append, h.mem]
  · have hk := (List.getElem?_eq_some_iff.1 hc).1
    rw [take_snoc hc]
    simp [Nat.min_eq_left (Nat.le_of_lt hk)]
theorem Upto.stay {s : List C7} {k : Nat} {set : List C7} (h : Upto s k set) {c : C7} (hc : s[k]? = some c) (hd : set[set.length - 1]? = some c) : Upto s (k + 1) set := by
  refine ⟨h.rises, fun x => ?_, by have := h.len; omega, ?_⟩
  · rw [take_snoc hc, List.mem_append, ← h.mem, List.mem_singleton]
    exact ⟨.inl, fun hx => hx.elim id fun e => e ▸ List.mem_of_getElem? hd⟩
  · have hk := (List.getElem?_eq_some_iff.1 hc).1
    rw [hd, take_snoc hc]
    simp [Nat.min_eq_left (Nat.le_of_lt hk)]
theorem Upto.no {s : List C7} {k : Nat} {set : List C7} (h : Upto s k set) {c d : C7} (hc : s[k]? = some c) (hd : set[set.length - 1]? = some d) (hi : d.i = c.i) (hne : d.same c = false) : clashB s = true :=
  clash_iff.2 ⟨d, List.mem_of_mem_take ((h.mem d).1 (List.mem_of_getElem? hd)), c, List.mem_of_getElem? hc, hi, C7.same_no.1 hne⟩
def idsL (l : List C7) : List Int := l.map C7.i
def RiseTo (l : List C7) (k : Nat) : Prop := ∀ j, 1 ≤ j → j < k → ∀ x y, l[j - 1]? = some x → l[j]? = some y → x.i < y.i
theorem RiseTo.lt {l : List C7} : ∀ (b a : Nat), RiseTo l l.length → a < b → ∀ x y, l[a]? = some x → l[b]? = some y → x.i < y.i
  | 0, a, _, hab, _, _, _, _ => absurd hab (by omega)
  | b + 1, a, h, hab, x, y, hx, hy => by
    have hb := (List.getElem?_eq_some_iff.1 hy).1
    have hz : l[b]? = some l[b] := List.getElem?_eq_getElem (by omega)
    have h1 := h (b + 1) (by omega) hb _ _ hz hy
    by_cases e : a = b
    · subst e; rw [hx] at hz; rw [Option.some.inj hz]; exact h1
    · have := RiseTo.lt b a h (by omega) x _ hx hz; omega
theorem RiseTo.rises {l : List C7} (h : RiseTo l l.length) : Rises l :=
  List.pairwise_iff_getElem.2 fun a b ha hb hab => RiseTo.lt b a h hab _ _ (List.getElem?_eq_getElem ha) (List.getElem?_eq_getElem hb)
end Go.Proofs.Ytmggggijamligaa
namespace Go.Proofs.Ytmggggijamligaa
open Go.RowKit
open Go.Lib (hid)
def flat : List C7 → List Value
  | [] => []
  | c :: cs => c.cells ++ flat cs
theorem flat_append : ∀ a b : List C7, flat (a ++ b) = flat a ++ flat b
  | [], b => rfl
  | c :: a, b => by rw [List.cons_append, flat, flat, flat_append a b, List.append_assoc]
theorem flat_single (c : C7) : flat [c] = c.cells := by simp [flat]
theorem flat_at : ∀ (cs : List C7) (j : Nat) (c : C7), cs[j]? = some c → ∀ (f : Nat) v, c.cells[f]? = some v → (flat cs)[j * 7 + f]? = some v
  | [], j, c, h, _, _, _ => by simp at h
  | d :: cs, 0, c, h, f, v, hv => by
    simp at h; subst h
    have hf := (List.getElem?_eq_some_iff.1 hv).1
    rw [flat, Nat.zero_mul, Nat.zero_add, List.getElem?_append_left hf]; exact hv
  | d :: cs, j + 1, c, h, f, v, hv => by
    have := flat_at cs j c (by simpa using h) f v hv
    have h7 : d.cells.length = 7 := rfl
    rw [flat, List.getElem?_append_right (by omega), h7, show (j + 1) * 7 + f - 7 = j * 7 + f by omega]
    exact this
abbrev Own (w : World) (B : Nat) (v : Value) (cs : List C7) : Prop := w.ownsRow B 31 7 v cs.length (flat cs)
theorem Own.nil (w : World) (B : Nat) : Own w B (.slice none 0 0) [] := World.ownsRow_nil _ _ _ _
theorem Own.shape {w : World} {B : Nat} {v : Value} {cs : List C7} (h : Own w B v cs) :
    (v = .slice none 0 0 ∧ cs = []) ∨ ∃ g cap, v = .slice (some ⟨g, 0, none⟩) cs.length cap ∧ B ≤ g ∧ g < w.heap.size ∧ CmsAt w g 0 cs := by
  have hl := h.lt
  have hcl := fun g (hg : v.ownBlock = some g) => h.cells hg
  rcases h.2 with ⟨rfl, h0⟩ | ⟨g, cap, cur, rfl, hb, hg, hn, hm, hs, ht⟩
  · exact .inl ⟨rfl, List.length_eq_zero_iff.1 h0⟩
  · refine .inr ⟨g, cap, rfl, hb, (hl g rfl).2, fun j c hc f v hv => ?_⟩
    have := hcl g rfl _ _ (flat_at cs j c hc f v hv)
    rw [show (⟨g, 0, none⟩ : Addr).add (j * 7 + f) = ⟨g, 0 + (j * 7 + f), none⟩ from by unfold Addr.add; split <;> simp_all] at this
    exact this
def Sl (w : World) (v : Value) (cs : List C7) : Prop :=
  ∃ (b o cap : Nat) (a : Option Addr), v = .slice a cs.length cap ∧ (a = none → cap = 0) ∧ (0 < cs.length → a = some ⟨b, o, none⟩) ∧ CmsAt w b o cs ∧ (0 < cs.length → b < w.heap.size)
theorem Own.sl {w : World} {B : Nat} {v : Value} {cs : List C7} (h : Own w B v cs) : Sl w v cs := by
  rcases h.shape with ⟨rfl, rfl⟩ | ⟨g, cap, rfl, hb, hl, hc⟩
  · exact ⟨0, 0, 0, none, rfl, fun _ => rfl, fun h => absurd h (by simp), fun j c hc => by simp at hc, fun h => absurd h (by simp)⟩
  · exact ⟨g, 0, cap, _, rfl, fun h => by simp at h, fun _ => rfl, hc, fun _ => hl⟩
theorem Sl.on {w w' : World} {v : Value} {cs : List C7} (h : Sl w v cs) (hb : Below w.heap.size w w') : Sl w' v cs := by
  obtain ⟨b, o, cap, a, rfl, hn, ha, hc, hl⟩ := h
  refine ⟨b, o, cap, a, rfl, hn, ha, ?_, fun h0 => by have := hl h0; have := hb.size; omega⟩
  intro j c hj
  have h0 : 0 < cs.length := by have := (List.getElem?_eq_some_iff.1 hj).1; omega
  exact hc.on hb (hl h0) j c hj
theorem Try.infoC : (Try.prog.info? 31).map (fun i => (i.zero, i.size, i.bytes)) = some (some (.agg #[.int .i64 0, .int .i64 0, .int .i64 0, .int .i64 0, .int .i64 0, .int .i64 0, .int .i64 0]), 7, 56) := by kernel_rfl
theorem Try.infoI : (Try.prog.info? 3).map (fun i => (i.zero, i.size, i.bytes)) = some (some (.int .i64 0), 1, 8) := by kernel_rfl
abbrev C7.v (c : C7) : Value := cmV c.i c.k c.s c.t c.d c.p c.q
end Go.Proofs.Ytmggggijamligaa
namespace Go.Proofs.Ytmggggijamligaa
open Go.RowKit
open Go.Lib (hid)
theorem equalC (a b : C7) (w : World) : Sem.run Try.prog (Op.equalIn 10000 31 a.v b.v) w = .ok (a.same b) w := by
  have u3 := Try.underlying3
  have a3 := Try.isAgg3
  have z3 := Try.sizeOf3
  have u31 := Try.underlying28
  have a31 := Try.isAgg28
  have z31 := Try.sizeOf28
  have u32 := Try.underlying29
  have a32 := Try.isAgg29
  have z32 := Try.sizeOf29
  have hS : Try.prog.underlying 31 = some (.struct (Try.prog.fieldsOf 31)) := by kernel_rfl
  have hp : Try.prog.stoodInHeld 31 = false := by kernel_rfl
  simp only [C7.v, cmV]
  rw [show (10000 : Nat) = 9999 + 1 from rfl, run_equalIn_agg w 9999 31 _ _ hS hp]
  simp only [Program.fieldsOf, Try.underlying31]
  go_simp
  unfold C7.same
  by_cases h1 : a.i = b.i
  · by_cases h2 : a.k = b.k
    · by_cases h3 : a.s = b.s
      · by_cases h4 : a.t = b.t
        · by_cases h5 : a.d = b.d
          · by_cases h6 : a.p = b.p
            · by_cases h7 : a.q = b.q
              · simp [h1, h2, h3, h4, h5, h6, h7]
              · simp [h1, h2, h3, h4, h5, h6, h7]
            · simp [h1, h2, h3, h4, h5, h6]
          · simp [h1, h2, h3, h4, h5]
        · simp [h1, h2, h3, h4]
      · simp [h1, h2, h3]
    · simp [h1, h2]
  · simp [h1]
theorem eqlC {a b : C7} {r : Bool} (h : a.same b = r) (w : World) : Sem.run Try.prog (binOp .eql 31 a.v b.v) w = .ok (.bool r) w := by
  rw [C7.v, C7.v, cmV, cmV, run_eql_struct]
  have := equalC a b w
  rw [C7.v, C7.v, cmV, cmV] at this
  rw [this, h]; rfl
theorem neqC {a b : C7} {r : Bool} (h : a.same b = r) (w : World) : Sem.run Try.prog (binOp .neq 31 a.v b.v) w = .ok (.bool (!r)) w := by
  rw [C7.v, C7.v, cmV, cmV, run_neq_struct]
  have := equalC a b w
  rw [C7.v, C7.v, cmV, cmV] at this
  rw [this, h]; rfl
theorem guardC (op : BinOp) (x y : Operand) (a b : C7) (w : World) : Sem.run Try.prog (eqGuard op 31 x y a.v b.v) w = .ok () w := run_eqGuard_agg w op 31 x y _ _ (by kernel_rfl)
theorem Sl.open {w : World} {v : Value} {cs : List C7} (h : Sl w v cs) : ∃ (b o cap : Nat) (a : Option Addr), v = .slice a cs.length cap ∧ (0 < cs.length → a = some ⟨b, o, none⟩) ∧ CmsAt w b o cs ∧ (0 < cs.length → b < w.heap.size) := by
  obtain ⟨b, o, cap, a, hv, _, ha, hc, hb⟩ := h
  exact ⟨b, o, cap, a, hv, ha, hc, hb⟩
end Go.Proofs.Ytmggggijamligaa
namespace Go.Proofs.Ytmggggijamligaa
set_option linter.unusedVariables false
open Go.RowKit
open Go.Lib (hid)
def sameB (a b : List C7) : Bool := decide (a = b)
theorem same_len {a b : List C7} (h : ¬ a.length = b.length) : sameB a b = false := decide_eq_false fun e => h (by rw [e])
theorem same_no {a b : List C7} {k : Nat} {x y : C7} (hx : a[k]? = some x) (hy : b[k]? = some y) (h : x.same y = false) : sameB a b = false := decide_eq_false fun e => by
  subst e; rw [hx] at hy; exact C7.same_no.1 h (Option.some.inj hy)
theorem same_yes {a b : List C7} {k : Nat} (hl : a.length = b.length) (hk : a.length ≤ k) (h : ∀ j, j < k → ∀ x, a[j]? = some x → ∀ y, b[j]? = some y → x.same y = true) : sameB a b = true := decide_eq_true (List.ext_getElem hl fun j h1 h2 => C7.same_iff.1 (h j (by omega) _ (List.getElem?_eq_getElem h1) _ (List.getElem?_eq_getElem h2)))
theorem same_next {a b : List C7} {k : Nat} {x y : C7} (h : ∀ j, j < k → ∀ x, a[j]? = some x → ∀ y, b[j]? = some y → x.same y = true) (hx : a[k]? = some x) (hy : b[k]? = some y) (hs : x.same y = true) : ∀ j, j < k + 1 → ∀ x, a[j]? = some x → ∀ y, b[j]? = some y → x.same y = true := fun j hj u hu v hv => by
  by_cases e : j = k
  · subst e; rw [hx] at hu; rw [hy] at hv; rw [← Option.some.inj hu, ← Option.some.inj hv]; exact hs
  · exact h j (by omega) u hu v hv
set_option maxHeartbeats 600000 in
set_option maxRecDepth 100000 in
theorem rSame {v v' : Value} {cs ds : List C7} {w : World} (h : Sl w v cs) (h' : Sl w v' ds) (hl : cs.length ≤ 100000) (hl' : ds.length ≤ 100000) : Calls Try.prog 10 #[v, v'] w fun e w' => e = .returned (.bool (sameB cs ds)) ∧ Below w.heap.size w w' := by
  obtain ⟨b, o, cap, a, rfl, ha, hc, hb⟩ := h.open
  obtain ⟨b', o', cap', a', rfl, ha', hc', hb'⟩ := h'.open
  clear h h'
  by_cases hlen : cs.length = ds.length
  · rw [hlen] at ha hb hl
    rw [hlen]
    have HL := hid hlen
    clear hlen
    go_enter Try.func10, Try.ntmps10
    go_wp2
    go_loopw [5] (fun i wr => ∃ k : Nat, k ≤ ds.length ∧ i = .int .i64 k ∧ Hid (∀ j, j < k → ∀ x, cs[j]? = some x → ∀ y, ds[j]? = some y → x.same y = true) ∧ Below w.heap.size w wr) (fun i _ => ds.length - (intOf i).toNat)
    case atStart => exact ⟨0, Nat.zero_le _, rfl, fun j hj => absurd hj (by omega), Below.refl _ _⟩
    case round =>
      obtain ⟨k, hk, rfl, hak, hB⟩ := hrel
      by_cases hlt : k < ds.length
      · obtain rfl := ha (by omega)
        obtain rfl := ha' (by omega)
        obtain ⟨x, hxx⟩ : ∃ x, cs[k]? = some x := ⟨cs[k]'(by rw [HL.out]; exact hlt), List.getElem?_eq_getElem (by rw [HL.out]; exact hlt)⟩
        obtain ⟨y, hyy⟩ : ∃ y, ds[k]? = some y := ⟨ds[k], List.getElem?_eq_getElem (by omega)⟩
        have hbw := hb (by omega)
        have hbw' := hb' (by omega)
        obtain ⟨c0, c1, c2, c3, c4, c5, c6⟩ := (hc.on hB hbw).at hxx
        obtain ⟨d0, d1, d2, d3, d4, d5, d6⟩ := (hc'.on hB hbw').at hyy
        have HX := hid (And.intro hxx hyy)
        have HB := hid hB
        clear hxx hyy hB
        rcases hs : x.same y with _ | _
        · have hE := neqC hs
          have hG := fun op p q W => guardC op p q x y W
          have HS := hid hs
          clear hs
          go_wp2
          go_quiet (fail)
          go_wp2
          go_ret
          exact ⟨ret_bool (same_no HX.out.1 HX.out.2 HS.out).symm, Below.drewN' HB.out _⟩
        · have hE := neqC hs
          have hG := fun op p q W => guardC op p q x y W
          have HS := hid hs
          clear hs
          go_wp2
          go_quiet (fail)
          go_wp2
          go_roundw
          case rel => exact ⟨k + 1, by omega, by go_num, same_next hak.out HX.out.1 HX.out.2 HS.out, Below.drewN' HB.out _⟩
          case measure => simp [intOf]; omega
      · have HS : Hid (sameB cs ds = true) := same_yes HL.out (by rw [HL.out]; omega) hak.out
        go_wp2
        go_ret
        exact ⟨ret_bool HS.out.symm, hB⟩
  · have HS : Hid (sameB cs ds = false) := same_len hlen
    go_enter Try.func10, Try.ntmps10
    go_wp2
    go_ret
    exact ⟨ret_bool HS.out.symm, Below.refl _ _⟩
end Go.Proofs.Ytmggggijamligaa
namespace Go.Proofs.Ytmggggijamligaa
set_option linter.unusedVariables false
open Go.RowKit
open Go.Lib (hid)
end Go.Proofs.Ytmggggijamligaa
namespace Go.Proofs.Ytmggggijamligaa
def oneN (n : Nat) : List UInt8 :=
  if h : n < 128 then [UInt8.ofNat n] else UInt8.ofNat (n % 128 + 128) :: oneN (n / 128)
termination_by n
decreasing_by omega
abbrev St := List UInt8 × Int
end Go.Proofs.Ytmggggijamligaa
namespace Go.Proofs.Ytmggggijamligaa
def C7.bytes (c : C7) : List UInt8 := oneN c.i.toNat ++ (oneN c.k.toNat ++ (oneN c.s.toNat ++ (oneN c.t.toNat ++ (oneN c.d.toNat ++ (oneN c.p.toNat ++ oneN c.q.toNat)))))
end Go.Proofs.Ytmggggijamligaa
namespace Go.Proofs.Ytmggggijamligaa
set_option linter.unusedVariables false
open Go.RowKit
open Go.Lib (hid)
def octs (l : List UInt8) : List Value := l.map fun b => .int .u8 b.toNat
theorem octs_append (a b : List UInt8) : octs (a ++ b) = octs a ++ octs b := by simp [octs]
abbrev OwnB (w : World) (B : Nat) (v : Value) (l : List UInt8) : Prop := w.ownsRow B 5 1 v l.length (octs l)
theorem OwnB.nil (w : World) (B : Nat) : OwnB w B (.slice none 0 0) [] := World.ownsRow_nil _ _ _ _
theorem OwnB.shape {w : World} {B : Nat} {v : Value} {l : List UInt8} (h : OwnB w B v l) :
    (v = .slice none 0 0 ∧ l = []) ∨ ∃ g cap, v = .slice (some ⟨g, 0, none⟩) l.length cap ∧ B ≤ g ∧ g < w.heap.size ∧ ∀ (j : Nat) b, l[j]? = some b → w.cell? ⟨g, j, none⟩ = some (.int .u8 b.toNat) := by
  have hl := h.lt
  rcases h.2 with ⟨rfl, h0⟩ | ⟨g, cap, cur, rfl, hb, hg, hn, hm, hs, ht⟩
  · exact .inl ⟨rfl, List.length_eq_zero_iff.1 h0⟩
  · refine .inr ⟨g, cap, rfl, hb, (hl g rfl).2, fun j b hj => ?_⟩
    have hj' := (List.getElem?_eq_some_iff.1 hj).1
    rw [h.cellAt j (by omega)]
    simp [octs, hj]
theorem own_monoB {w : World} {B B' : Nat} {e : TypeId} {size : Nat} {v : Value} {n : Nat} {xs : List Value} (h : w.ownsRow B e size v n xs) (hB : B' ≤ B) : w.ownsRow B' e size v n xs := by
  refine ⟨h.1, ?_⟩
  rcases h.2 with h2 | ⟨g, cap, cur, rfl, hb, r⟩
  · exact .inl h2
  · exact .inr ⟨g, cap, cur, rfl, Nat.le_trans hB hb, r⟩
theorem OwnB.lit (w : World) (b : UInt8) : OwnB (w.alloc (.cells #[.int .u8 b.toNat] 5)) w.heap.size (.slice (some ⟨w.heap.size, 0, none⟩) 1 1) [b] :=
  ⟨rfl, .inr ⟨w.heap.size, 1, _, rfl, Nat.le_refl _, heap_alloc_new w _, Nat.le_refl _, by unfold maxLen; omega, rfl, rfl⟩⟩
theorem OwnB.below {w w' : World} {B C : Nat} {v : Value} {l : List UInt8} (h : OwnB w B v l) (hb : Below C w w') (hC : ∀ k, v.ownBlock = some k → k < C) : OwnB w' B v l := by
  refine ⟨h.1, ?_⟩
  rcases h.2 with h2 | ⟨g, cap, cur, rfl, h1, hg, r⟩
  · exact .inl h2
  · exact .inr ⟨g, cap, cur, rfl, h1, by rw [hb.block g (hC g rfl)]; exact hg, r⟩
end Go.Proofs.Ytmggggijamligaa
namespace Go.Proofs.Ytmggggijamligaa
set_option linter.unusedVariables false
open Go.RowKit
open Go.Lib (hid)
def SlN (w : World) (v : Value) (l : List Int) : Prop :=
  ∃ (b o cap : Nat) (a : Option Addr), v = .slice a l.length cap ∧ (0 < l.length → a = some ⟨b, o, none⟩) ∧ (∀ (j : Nat) x, l[j]? = some x → w.cell? ⟨b, o + j, none⟩ = some (.int .i64 x)) ∧ (0 < l.length → b < w.heap.size)
theorem SlN.on {w w' : World} {v : Value} {l : List Int} (h : SlN w v l) (hb : Below w.heap.size w w') : SlN w' v l := by
  obtain ⟨b, o, cap, a, rfl, ha, hc, hl⟩ := h
  refine ⟨b, o, cap, a, rfl, ha, fun j x hx => ?_, fun h0 => by have := hl h0; have := hb.size; omega⟩
  have h0 : 0 < l.length := by have := (List.getElem?_eq_some_iff.1 hx).1; omega
  rw [hb.cell (p := ⟨b, o + j, none⟩) (hl h0)]
  exact hc j x hx
theorem OwnB.grows {w W0 w1 : World} {B n : Nat} {v v' : Value} {a b : List UInt8} (hB : Below B w W0) (hsz : B ≤ W0.heap.size) (hlt : ∀ k, v.ownBlock = some k → B ≤ k)
    (hown' : w1.ownsRow B 5 1 v' n (octs a ++ octs b)) (hn : n = a.length + b.length) (hg : W0.grownBy w1 v.ownBlock) : OwnB w1 B v' (a ++ b) ∧ Below B w w1 :=
  ⟨by unfold OwnB; rw [octs_append, List.length_append, ← hn]; exact hown', hB.grown hg hsz hlt⟩
theorem OwnB.asSlice {w : World} {B : Nat} {v : Value} {l : List UInt8} (h : OwnB w B v l) : ∃ (g : Option Addr) (cap n : Nat), v = .slice g n cap ∧ n = l.length := by
  rcases h.shape with ⟨e, e'⟩ | ⟨g, cap, e, _⟩
  · exact ⟨none, 0, 0, e, by rw [e']; rfl⟩
  · exact ⟨_, cap, _, e, rfl⟩
def C7.nums (c : C7) : List Int := [c.i, c.k, c.s, c.t, c.d, c.p, c.q]
end Go.Proofs.Ytmggggijamligaa
namespace Go.Proofs.Ytmggggijamligaa
set_option linter.unusedVariables false
open Go.RowKit
open Go.Lib (hid)
end Go.Proofs.Ytmggggijamligaa
namespace Go.Proofs.Ytmggggijamligaa
set_option linter.unusedVariables false
open Go.RowKit
open Go.Lib (hid)
def ints (l : List Int) : List Value := l.map (Value.int .i64)
theorem ints_append (a b : List Int) : ints (a ++ b) = ints a ++ ints b := by simp [ints]
abbrev OwnN (w : World) (B : Nat) (v : Value) (l : List Int) : Prop := w.ownsRow B 3 1 v l.length (ints l)
theorem OwnN.sl {w : World} {B : Nat} {v : Value} {l : List Int} (h : OwnN w B v l) : SlN w v l := by
  have hl := h.lt
  rcases h.2 with ⟨rfl, h0⟩ | ⟨g, cap, cur, rfl, hb, hg, hn, hm, hs, ht⟩
  · obtain rfl := List.length_eq_zero_iff.1 h0
    exact ⟨0, 0, 0, none, rfl, fun h => absurd h (by simp), fun j x hx => by simp at hx, fun h => absurd h (by simp)⟩
  · refine ⟨g, 0, cap, _, rfl, fun _ => rfl, fun j x hx => ?_, fun _ => (hl g rfl).2⟩
    have hj := (List.getElem?_eq_some_iff.1 hx).1
    rw [Nat.zero_add, h.cellAt j (by omega)]
    simp [ints, hx]
theorem own_below {w w' : World} {B C : Nat} {e : TypeId} {size : Nat} {v : Value} {n : Nat} {xs : List Value} (h : w.ownsRow B e size v n xs) (hb : Below C w w') (hC : ∀ k, v.ownBlock = some k → k < C) : w'.ownsRow B e size v n xs := by
  refine ⟨h.1, ?_⟩
  rcases h.2 with h2 | ⟨g, cap, cur, rfl, h1, hg, r⟩
  · exact .inl h2
  · exact .inr ⟨g, cap, cur, rfl, h1, by rw [hb.block g (hC g rfl)]; exact hg, r⟩
theorem OwnN.lit (w : World) (x : Int) : OwnN (w.alloc (.cells #[.int .i64 x] 3)) w.heap.size (.slice (some ⟨w.heap.size, 0, none⟩) 1 1) [x] :=
  ⟨rfl, .inr ⟨w.heap.size, 1, _, rfl, Nat.le_refl _, heap_alloc_new w _, Nat.le_refl _, by unfold maxLen; omega, rfl, rfl⟩⟩
theorem OwnN.asSlice {w : World} {B : Nat} {v : Value} {l : List Int} (h : OwnN w B v l) : ∃ (g : Option Addr) (cap n : Nat), v = .slice g n cap ∧ n = l.length := by
  rcases h.2 with ⟨rfl, h0⟩ | ⟨g, cap, cur, rfl, _⟩
  · exact ⟨none, 0, 0, rfl, h0.symm⟩
  · exact ⟨_, cap, _, rfl, rfl⟩
theorem OwnN.grows {w W0 w1 : World} {B n : Nat} {v v' : Value} {a b : List Int} (hB : Below B w W0) (hsz : B ≤ W0.heap.size) (hlt : ∀ k, v.ownBlock = some k → B ≤ k)
    (hown' : w1.ownsRow B 3 1 v' n (ints a ++ ints b)) (hn : n = a.length + b.length) (hg : W0.grownBy w1 v.ownBlock) : OwnN w1 B v' (a ++ b) ∧ Below B w w1 :=
  ⟨by unfold OwnN; rw [ints_append, List.length_append, ← hn]; exact hown', hB.grown hg hsz hlt⟩
end Go.Proofs.Ytmggggijamligaa
namespace Go.Proofs.Ytmggggijamligaa
set_option linter.unusedVariables false
open Go.RowKit
open Go.Lib (hid)
theorem OwnB.some {w : World} {B : Nat} {v : Value} {l : List UInt8} (h : OwnB w B v l) (hl : l ≠ []) : ∃ g cap, v = .slice (Option.some ⟨g, 0, none⟩) l.length cap := by
  rcases h.shape with ⟨_, e⟩ | ⟨g, cap, e, _⟩
  · exact absurd e hl
  · exact ⟨g, cap, e⟩
end Go.Proofs.Ytmggggijamligaa
