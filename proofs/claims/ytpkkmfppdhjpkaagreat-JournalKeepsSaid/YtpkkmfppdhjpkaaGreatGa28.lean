import Derived.Test.YtpkkmfppdhjpkaaGreatGa18
import Derived.Test.YtpkkmfppdhjpkaaGreatGa17
import Derived.Test.YtpkkmfppdhjpkaaGreatObjM
import Derived.Test.YtpkkmfppdhjpkaaGreatGa07
import Derived.Test.YtpkkmfppdhjpkaaGreatGa06
import Derived.Test.YtpkkmfppdhjpkaaGreatRows
import Derived.WalkKit
import Derived.LoopTactic
import Derived.ProofKit
import Derived.Lib.Hide
import Derived.Laws.AppendOwn
import Derived.Laws.AppendOwnNone
import Derived.Laws.OwnMore
import Derived.OwnWalk
import Derived.WalkMore
import Derived.Lib.SliceRun
import Derived.Laws.BytesArg
import Derived.Laws.IdiomStrings
import Derived.Test.YtpkkmfppdhjpkaaGreatGa20
import Derived.Laws.CopyOwn
import Derived.Deep.QuietTactic
import Derived.BigQuiet
import Derived.BigRegion
import Derived.RegionTactic
/- Bytes and numbers in memory: as they come in, and as the calls make them. -/
namespace Go.Proofs.YtpkkmfppdhjpkaaGreat
set_option linter.unusedVariables false
open Go.RowKit
open Go.Lib (hid)

set_option linter.unusedVariables false
open Go.RowKit
open Go.Lib (hid)

set_option linter.unusedVariables false
open Go.RowKit
open Go.Lib (hid)

set_option linter.unusedVariables false
open Go.RowKit
open Go.Lib (hid)

set_option linter.unusedVariables false
open Go.RowKit
open Go.Lib (hid)

set_option linter.unusedVariables false
open Go.RowKit
open Go.Lib (hid)

set_option linter.unusedVariables false
open Go.RowKit
open Go.Lib (hid)

abbrev strB (l : List UInt8) : Value := .string ⟨l.toArray⟩
theorem convB {w : World} {v : Value} {l : List UInt8} (h : SlB w v l) : (convert 63 9 v).run Tryz.prog w = .ok (strB l) w := by
  rcases h.src with ⟨rfl, rfl⟩ | ⟨ad, cap, rfl, hc, _⟩
  · exact run_convert_bytes_nil (P := Tryz.prog) (w := w) _ 5 Tryz.underlying63 Tryz.underlying5 0 0 _ Tryz.underlying9
  · exact run_convert_bytes_back w _ _ 5 ad cap l Tryz.underlying63 Tryz.underlying5 Tryz.underlying9 fun j hj => hc j _ (by simp [octs, List.getElem?_eq_getElem hj])
set_option linter.unusedVariables false
open Go.RowKit
open Go.Lib (hid)

end Go.Proofs.YtpkkmfppdhjpkaaGreat
/- A disk of the program's, and one of the document's, in memory. -/
namespace Go.Proofs.YtpkkmfppdhjpkaaGreat
set_option linter.unusedVariables false
open Go.RowKit
open Go.Lib (hid)

theorem SlB.any {w : World} {v : Value} {l : List UInt8} (h : SlB w v l) : ∃ a cap, v = .slice a l.length cap ∧ l.length ≤ cap ∧ (a = none → cap = 0) := by
  obtain ⟨b, o, cap, a, rfl, hn, hcap, ha, hc, hb⟩ := h
  exact ⟨a, cap, rfl, hcap, hn⟩
/-- Block p holds a disk: its room, its bytes, how many of them are synced. -/
abbrev Tri (T : TypeId) (w : World) (p : Nat) (room : Int) (v : Value) (s : Int) : Prop := w.heap[p]? = some (.cells #[.int .i64 room, v, .int .i64 s] T (0, 0))
abbrev Dk (w : World) (p : Nat) (room : Int) (v : Value) (s : Int) : Prop := Tri 65 w p room v s
theorem Tri.cells {T : TypeId} {w : World} {p : Nat} {room s : Int} {v : Value} (h : Tri T w p room v s) : p < w.heap.size ∧ w.cell? ⟨p, 0, none⟩ = some (.int .i64 room) ∧ w.cell? ⟨p, 1, none⟩ = some v ∧ w.cell? ⟨p, 2, none⟩ = some (.int .i64 s) ∧ w.frozen? ⟨p, 0, none⟩ = false ∧ w.frozen? ⟨p, 1, none⟩ = false ∧ w.frozen? ⟨p, 2, none⟩ = false :=
  ⟨(Array.getElem?_eq_some_iff.1 h).1, cellAt' h 0, cellAt' h 1, cellAt' h 2, frozenAt h 0, frozenAt h 1, frozenAt h 2⟩
theorem Tri.set1 {T : TypeId} {w : World} {p : Nat} {room s : Int} {v u : Value} (h : Tri T w p room v s) : Tri T (w.setCell ⟨p, 1, none⟩ u) p room u s := setAt h
theorem Tri.set2 {T : TypeId} {w : World} {p : Nat} {room s u : Int} {v : Value} (h : Tri T w p room v s) : Tri T (w.setCell ⟨p, 2, none⟩ (.int .i64 u)) p room v u := setAt h
theorem obOn {B : Nat} {w w' : World} {p : Nat} {o : Obj} (h : w.heap[p]? = some o) (hb : Below B w w') (hp : p < B) : w'.heap[p]? = some o := (hb.block p hp).trans h
theorem obKept {w w' : World} {q : Nat} {o : Obj} {row : Option Nat} (h : w.heap[q]? = some o) (hg : w.grownBy w' row) (hne : row ≠ some q) : w'.heap[q]? = some o := by
  rw [hg.block q (Array.getElem?_eq_some_iff.1 h).1 (fun e => hne e.symm)]; exact h
/-- A disk's block is no block of bytes. -/
theorem Tri.apart {T : TypeId} {w : World} {p B : Nat} {room s : Int} {v u : Value} {l : List UInt8} (h : Tri T w p room v s) (hT : T ≠ 5) (ho : OwnB w B u l) : u.ownBlock ≠ some p := by
  rcases ho.2 with ⟨rfl, _⟩ | ⟨g, cap, cur, rfl, _, hg, _⟩
  · simp [Value.ownBlock]
  · intro e
    simp [Value.ownBlock] at e
    subst e
    rw [h] at hg
    injection hg with h1
    injection h1 with h2 h3
    exact hT h3
/-- The first bytes of one's own. -/
theorem OwnB.head {w : World} {B : Nat} {g : Option Addr} {n cap k : Nat} {l : List UInt8} (h : OwnB w B (.slice g n cap) l) (hk : k ≤ l.length) : OwnB w B (.slice g k cap) (l.take k) := by
  have hlt : (l.take k).length = k := by rw [List.length_take]; omega
  have ho : octs (l.take k) = (octs l).take k := by simp [octs, List.map_take]
  rcases h.2 with ⟨e, h0⟩ | ⟨g', cap', cur, e, hb, hg, hn, hm, hs, ht⟩
  · injection e with e1 e2 e3
    subst e1 e3
    obtain rfl := List.length_eq_zero_iff.1 h0
    simp at hk
    subst hk
    exact OwnB.nil _ _
  · injection e with e1 e2 e3
    subst e1 e2 e3
    unfold OwnB
    rw [hlt, ho]
    refine ⟨by rw [List.length_take, octs_len]; omega, .inr ⟨g', cap, cur, rfl, hb, hg, by omega, hm, hs, ?_⟩⟩
    rw [← ht, List.take_take, Nat.mul_one, Nat.mul_one, Nat.min_eq_left hk]
theorem SlB.headA {w : World} {g : Option Addr} {n cap k : Nat} {l : List UInt8} (h : SlB w (.slice g n cap) l) (hk : k ≤ l.length) : SlB w (.slice g k cap) (l.take k) := by
  have hlt : (l.take k).length = k := by rw [List.length_take]; omega
  obtain ⟨b, o, cap', a, e, hn, hcap, ha, hc, hb⟩ := h
  injection e with e1 e2 e3
  subst e1 e3
  refine ⟨b, o, cap, g, by rw [hlt], hn, by omega, fun h0 => ha (by omega), fun j x hx => ?_, fun h0 => hb (by omega)⟩
  have hj := (List.getElem?_eq_some_iff.1 hx).1
  rw [List.getElem?_take, if_pos (by omega)] at hx
  exact hc j x hx
theorem SlB.kept {w w' : World} {v : Value} {l : List UInt8} {row : Option Nat} (h : SlB w v l) (hg : w.grownBy w' row) (hne : ∀ k, v.ownBlock = some k → row ≠ some k) : SlB w' v l :=
  h.same hg.size fun k hk hlt => hg.block k hlt fun e => hne k hk e.symm
theorem row_of {w : World} {B g n cap : Nat} {T : TypeId} {xs : List Value} (h : w.ownsRow B T 1 (.slice (some ⟨g, 0, none⟩) n cap) n xs) : ∃ cur : List Value, w.heap[g]? = some (.cells cur.toArray T (0, 0)) ∧ cur.length = cap ∧ B ≤ g ∧ cap ≤ maxLen := by
  rcases h.2 with ⟨e, h0⟩ | ⟨g', cap', cur, e, hb, hg, hn, hm, hs, ht⟩
  · cases e
  · injection e with e1 e2 e3
    injection e1 with e4
    injection e4 with e5
    subst e5 e3
    exact ⟨cur.toList, by simpa using hg, by simpa using hs, hb, hm⟩
theorem own_row {w : World} {B g n : Nat} {l : List UInt8} (h : w.heap[g]? = some (.cells (octs l).toArray 5 (0, 0))) (hB : B ≤ g) (hn : l.length = n) (hm : n ≤ maxLen) : OwnB w B (.slice (some ⟨g, 0, none⟩) n n) l := by
  subst hn
  exact ⟨by rw [octs_len, Nat.mul_one], .inr ⟨g, _, _, rfl, hB, h, Nat.le_refl _, hm, by simp [octs_len], by simp [octs_len, List.take_of_length_le]⟩⟩
theorem splice_all {cur cs : List Value} (h : cur.length = cs.length) : splice cur 0 cs = cs := by
  unfold splice
  rw [Nat.zero_add, ← h, List.drop_length, List.take_zero, List.nil_append, List.append_nil]
theorem belowNone {w w' : World} (hg : w.grownBy w' none) : Below w.heap.size w w' := ⟨hg.os, hg.tape, hg.output, hg.size, fun k hk => hg.block k hk (by simp)⟩
theorem grownOff {w W : World} {row : Option Nat} (h : w.drew.grownBy W row) : w.grownBy W row := ⟨h.os, h.tape, h.output, h.size, h.block⟩
theorem belowDrewN {B : Nat} {w W : World} (h : Below B w W) (n : Nat) : Below B w (W.drewN n) := ⟨h.1, h.2, h.3, h.4, h.5⟩
end Go.Proofs.YtpkkmfppdhjpkaaGreat
/- The mathematics of the sum: bit by bit, byte by byte; one byte other is another sum. -/
namespace Go.Proofs.YtpkkmfppdhjpkaaGreat

/-- What is left once the factor of the highest power is divided away. -/
def sN (x : Nat) : Nat := if x % 2 = 1 then x / 2 ^^^ 3988292384 else x / 2
/-- So often. -/
def sNs : Nat → Nat → Nat
  | 0, x => x
  | k + 1, x => sNs k (sN x)
theorem sNs_add : ∀ (a b x : Nat), sNs (a + b) x = sNs b (sNs a x)
  | 0, b, x => by rw [Nat.zero_add]; rfl
  | a + 1, b, x => by rw [show a + 1 + b = (a + b) + 1 by omega, sNs, sNs_add a b, sNs]
theorem sNs_succ (k x : Nat) : sNs (k + 1) x = sN (sNs k x) := by rw [sNs_add k 1]; rfl
/-- A byte more. -/
def byteN (x : Nat) (b : UInt8) : Nat := sNs 8 (x ^^^ b.toNat)
def foldN (l : List UInt8) : Nat := l.foldl byteN 4294967295
def sumN (l : List UInt8) : Nat := 4294967295 - foldN l

theorem xor_lt {a b : Nat} (ha : a < 2 ^ 32) (hb : b < 2 ^ 32) : a ^^^ b < 2 ^ 32 := Nat.xor_lt_two_pow ha hb
theorem sN_lt {x : Nat} (h : x < 4294967296) : sN x < 4294967296 := by
  unfold sN
  split
  · exact xor_lt (a := x / 2) (b := 3988292384) (by omega) (by omega)
  · omega
theorem sNs_lt : ∀ (k : Nat) {x : Nat}, x < 4294967296 → sNs k x < 4294967296
  | 0, x, h => h
  | k + 1, x, h => by rw [sNs]; exact sNs_lt k (sN_lt h)
theorem byteN_lt {x : Nat} (b : UInt8) (h : x < 4294967296) : byteN x b < 4294967296 := by
  unfold byteN
  have := b.toNat_lt
  exact sNs_lt 8 (xor_lt (a := x) (b := b.toNat) h (by omega))
theorem fold_lt : ∀ (l : List UInt8) {x : Nat}, x < 4294967296 → l.foldl byteN x < 4294967296
  | [], x, h => h
  | b :: l, x, h => by rw [List.foldl_cons]; exact fold_lt l (byteN_lt b h)
theorem foldN_lt (l : List UInt8) : foldN l < 4294967296 := fold_lt l (by omega)
theorem sumN_lt (l : List UInt8) : sumN l < 4294967296 := by unfold sumN; omega

/-! One step, with more behind. -/
theorem xor_mod2 (x y : Nat) : (x ^^^ 2 * y) % 2 = x % 2 := by
  have h := Nat.testBit_xor x (2 * y) 0
  have h2 : (2 * y).testBit 0 = false := by rw [Nat.testBit_zero]; simp
  rw [h2, Bool.xor_false, Nat.testBit_zero, Nat.testBit_zero] at h
  have h3 := decide_eq_decide.1 h
  omega
theorem xor_div2 (x y : Nat) : (x ^^^ y) / 2 = x / 2 ^^^ y / 2 := by
  apply Nat.eq_of_testBit_eq
  intro i
  simp [Nat.testBit_div_two, Nat.testBit_xor]
theorem sN_xor (x y : Nat) : sN (x ^^^ 2 * y) = sN x ^^^ y := by
  have h2 : (x ^^^ 2 * y) / 2 = x / 2 ^^^ y := by rw [xor_div2]; congr 1; omega
  unfold sN
  rw [xor_mod2, h2]
  split
  · rw [Nat.xor_assoc, Nat.xor_comm y, ← Nat.xor_assoc]
  · rfl
theorem sNs_xor : ∀ (k x y : Nat), sNs k (x ^^^ 2 ^ k * y) = sNs k x ^^^ y
  | 0, x, y => by simp [sNs]
  | k + 1, x, y => by
    rw [sNs, sNs, show 2 ^ (k + 1) * y = 2 * (2 ^ k * y) by rw [Nat.pow_succ, Nat.mul_comm (2 ^ k) 2, Nat.mul_assoc], sN_xor, sNs_xor k]

/-- Bytes as one number, the first the lowest. -/
def wholeN : List UInt8 → Nat
  | [] => 0
  | b :: l => b.toNat + 256 * wholeN l
theorem add_xor {b y : Nat} (h : b < 256) : b + 256 * y = b ^^^ 2 ^ 8 * y := by
  rw [show (256 : Nat) = 2 ^ 8 from rfl] at *
  have h1 : b + 2 ^ 8 * y = 2 ^ 8 * y ||| b := by rw [Nat.add_comm]; exact Nat.two_pow_add_eq_or_of_lt h y
  rw [h1]
  apply Nat.eq_of_testBit_eq
  intro i
  simp only [Nat.testBit_or, Nat.testBit_xor, Nat.testBit_two_pow_mul]
  by_cases hi : 8 ≤ i
  · have : b.testBit i = false := Nat.testBit_lt_two_pow (Nat.lt_of_lt_of_le h (Nat.pow_le_pow_right (by omega) hi))
    simp [this]
  · simp [hi]
/-- Bit by bit is byte by byte. -/
theorem sNs_whole : ∀ (l : List UInt8) (x : Nat), sNs (8 * l.length) (x ^^^ wholeN l) = l.foldl byteN x
  | [], x => by simp [wholeN, sNs]
  | b :: l, x => by
    have hb := b.toNat_lt
    rw [List.length_cons, List.foldl_cons, wholeN, add_xor (by omega), ← Nat.xor_assoc, show 8 * (l.length + 1) = 8 + 8 * l.length by omega, sNs_add, sNs_xor 8, sNs_whole l]
    rfl

/-! Another byte, another sum. -/
theorem xor_cancel {a b c : Nat} (h : a ^^^ c = b ^^^ c) : a = b := by
  have := congrArg (· ^^^ c) h
  simpa [Nat.xor_assoc] using this
theorem half_top {x : Nat} (h : x < 4294967296) : (x / 2 ^^^ 3988292384).testBit 31 = true := by
  rw [Nat.testBit_xor, show Nat.testBit (x / 2) 31 = false from Nat.testBit_lt_two_pow (by omega)]
  decide
theorem sN_inj {x y : Nat} (hx : x < 4294967296) (hy : y < 4294967296) (h : sN x = sN y) : x = y := by
  have tx : Nat.testBit (x / 2) 31 = false := Nat.testBit_lt_two_pow (by omega)
  have ty : Nat.testBit (y / 2) 31 = false := Nat.testBit_lt_two_pow (by omega)
  unfold sN at h
  split at h <;> split at h
  · have := xor_cancel h; omega
  · have h1 := half_top hx; rw [h, ty] at h1; cases h1
  · have h1 := half_top hy; rw [← h, tx] at h1; cases h1
  · omega
theorem sNs_inj : ∀ (k : Nat) {x y : Nat}, x < 4294967296 → y < 4294967296 → sNs k x = sNs k y → x = y
  | 0, _, _, _, _, h => h
  | k + 1, _, _, hx, hy, h => sN_inj hx hy (sNs_inj k (sN_lt hx) (sN_lt hy) h)
theorem fold_inj : ∀ (l : List UInt8) {x y : Nat}, x < 4294967296 → y < 4294967296 → l.foldl byteN x = l.foldl byteN y → x = y
  | [], _, _, _, _, h => h
  | b :: l, x, y, hx, hy, h => by
    have hb := b.toNat_lt
    rw [List.foldl_cons, List.foldl_cons] at h
    have := fold_inj l (byteN_lt b hx) (byteN_lt b hy) h
    exact xor_cancel (sNs_inj 8 (xor_lt hx (by omega)) (xor_lt hy (by omega)) this)
theorem sum_other {a c : List UInt8} {x y : UInt8} (h : x ≠ y) : sumN (a ++ x :: c) ≠ sumN (a ++ y :: c) := by
  intro hh
  have h1 := foldN_lt (a ++ x :: c)
  have h2 := foldN_lt (a ++ y :: c)
  have h3 : foldN (a ++ x :: c) = foldN (a ++ y :: c) := by unfold sumN at hh; omega
  unfold foldN at h3
  rw [List.foldl_append, List.foldl_append, List.foldl_cons, List.foldl_cons] at h3
  have hf := fold_lt a (x := 4294967295) (by omega)
  have hx := x.toNat_lt
  have hy := y.toNat_lt
  have h4 := fold_inj c (byteN_lt x hf) (byteN_lt y hf) h3
  have h5 := sNs_inj 8 (xor_lt hf (by omega)) (xor_lt hf (by omega)) h4
  rw [Nat.xor_comm, Nat.xor_comm _ y.toNat] at h5
  exact h (UInt8.toNat_inj.1 (xor_cancel h5))
theorem sum_live : sumN [49, 50, 51, 52, 53, 54, 55, 56, 57] = 3421780262 := by decide +kernel
end Go.Proofs.YtpkkmfppdhjpkaaGreat
