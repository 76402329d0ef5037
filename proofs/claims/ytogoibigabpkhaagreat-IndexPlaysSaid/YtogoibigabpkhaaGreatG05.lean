import Derived.Test.YtogoibigabpkhaaGreatG04
import Derived.Laws.OwnMore
import Derived.OwnWalk
import Derived.Deep.QuietTactic
import Derived.BigQuiet
/- The mathematics of commands and values as bytes: what is put is taken, and its bytes are the only ones. -/
namespace Go.Proofs.YtogoibigabpkhaaGreat

def C7.bytes (c : C7) : List UInt8 := oneN c.i.toNat ++ (oneN c.k.toNat ++ (oneN c.s.toNat ++ (oneN c.t.toNat ++ (oneN c.d.toNat ++ (oneN c.p.toNat ++ oneN c.q.toNat)))))
def cmdsB (l : List C7) : List UInt8 := l.flatMap C7.bytes
def cmdsBytes (l : List C7) : List UInt8 := oneN l.length ++ cmdsB l
def valueBytes (t : Int) (l : List C7) : List UInt8 := oneN t.toNat ++ cmdsBytes l

/-- A command that may be has small numbers. -/
theorem C7.ok_small {c : C7} (h : c.ok = true) : (0 ≤ c.i ∧ c.i ≤ 1048576) ∧ (0 ≤ c.k ∧ c.k ≤ 1048576) ∧ (0 ≤ c.s ∧ c.s ≤ 1048576) ∧ (0 ≤ c.t ∧ c.t ≤ 1048576) ∧ (0 ≤ c.d ∧ c.d ≤ 1048576) ∧ (0 ≤ c.p ∧ c.p ≤ 1048576) ∧ (0 ≤ c.q ∧ c.q ≤ 1048576) := by
  unfold C7.ok oneB at h
  rw [Bool.and_eq_true, Bool.and_eq_true, named_true, within_true] at h
  obtain ⟨⟨h1, h2⟩, h3⟩ := h
  split at h3
  · rename_i hk
    simp only [Bool.and_eq_true, within_true, beq_iff_eq] at h3
    obtain ⟨⟨⟨h4, h5⟩, h6⟩, h7⟩ := h3
    refine ⟨by omega, by omega, by omega, by omega, by omega, by omega, by omega⟩
  · split at h3
    · rename_i hk
      simp only [Bool.and_eq_true, within_true, named_true] at h3
      obtain ⟨⟨⟨h4, h5⟩, h6⟩, h7⟩ := h3
      refine ⟨by omega, by omega, by omega, by omega, by omega, by omega, by omega⟩
    · split at h3
      · rename_i hk
        simp only [Bool.and_eq_true, within_true, named_true] at h3
        obtain ⟨⟨⟨h4, h5⟩, h6⟩, h7⟩ := h3
        refine ⟨by omega, by omega, by omega, by omega, by omega, by omega, by omega⟩
      · cases h3

/-- Seven numbers, taken one behind the other. -/
def cmdRaw (s : St) : C7 × St :=
  let a := numS s
  let b := numS a.2
  let c := numS b.2
  let d := numS c.2
  let e := numS d.2
  let f := numS e.2
  let g := numS f.2
  (⟨a.1, b.1, c.1, d.1, e.1, f.1, g.1⟩, g.2)
def cmdS (s : St) : C7 × St :=
  let x := cmdRaw s
  if x.2.2 = 0 then (if x.1.ok = true then x else (default, ([], 2))) else (default, x.2)
theorem cmdRaw_back {c : C7} (h : c.ok = true) (rest : List UInt8) : cmdRaw (c.bytes ++ rest, 0) = (c, (rest, 0)) := by
  obtain ⟨h1, h2, h3, h4, h5, h6, h7⟩ := C7.ok_small h
  obtain ⟨i, k, s, t, d, p, q⟩ := c
  simp only at h1 h2 h3 h4 h5 h6 h7
  unfold cmdRaw C7.bytes
  simp only [List.append_assoc]
  rw [numS_one (by omega)]; dsimp only
  rw [numS_one (by omega)]; dsimp only
  rw [numS_one (by omega)]; dsimp only
  rw [numS_one (by omega)]; dsimp only
  rw [numS_one (by omega)]; dsimp only
  rw [numS_one (by omega)]; dsimp only
  rw [numS_one (by omega)]; dsimp only
  rw [Int.toNat_of_nonneg h1.1, Int.toNat_of_nonneg h2.1, Int.toNat_of_nonneg h3.1, Int.toNat_of_nonneg h4.1, Int.toNat_of_nonneg h5.1, Int.toNat_of_nonneg h6.1, Int.toNat_of_nonneg h7.1]
theorem cmdS_back {c : C7} (h : c.ok = true) (rest : List UInt8) : cmdS (c.bytes ++ rest, 0) = (c, (rest, 0)) := by
  unfold cmdS
  rw [cmdRaw_back h]
  simp [h]
theorem cmdRaw_ok {s : St} (h : (cmdRaw s).2.2 = 0) : s.2 = 0 ∧ s.1 = (cmdRaw s).1.bytes ++ (cmdRaw s).2.1 := by
  unfold cmdRaw at *
  dsimp only at h
  have g := numS_ok h
  have f := numS_ok g.1
  have e := numS_ok f.1
  have d := numS_ok e.1
  have c := numS_ok d.1
  have b := numS_ok c.1
  have a := numS_ok b.1
  refine ⟨a.1, ?_⟩
  unfold C7.bytes
  simp only [Int.toNat_natCast, List.append_assoc]
  rw [← g.2.2, ← f.2.2, ← e.2.2, ← d.2.2, ← c.2.2, ← b.2.2, ← a.2.2]
theorem cmdS_ok {s : St} (h : (cmdS s).2.2 = 0) : s.2 = 0 ∧ (cmdS s).1.ok = true ∧ s.1 = (cmdS s).1.bytes ++ (cmdS s).2.1 := by
  unfold cmdS at *
  dsimp only at *
  by_cases h1 : (cmdRaw s).2.2 = 0
  · rw [if_pos h1] at *
    by_cases h2 : (cmdRaw s).1.ok = true
    · rw [if_pos h2] at *
      exact ⟨(cmdRaw_ok h1).1, h2, (cmdRaw_ok h1).2⟩
    · rw [if_neg h2] at h; simp at h
  · rw [if_neg h1] at h; exact absurd h h1

/-- So many commands, as long as nothing is wrong. -/
def cmdsGo : Nat → List C7 → St → List C7 × St
  | 0, out, s => (out, s)
  | k + 1, out, s => if s.2 = 0 then cmdsGo k (out ++ [(cmdS s).1]) (cmdS s).2 else (out, s)
def cmdsS (s : St) : List C7 × St :=
  let a := numS s
  if 1024 < a.1 then ([], ([], 2)) else
    let b := cmdsGo a.1 [] a.2
    if b.2.2 = 0 then b else ([], b.2)
theorem cmdsGo_back : ∀ (l out : List C7) (rest : List UInt8), l.all C7.ok = true → cmdsGo l.length out (cmdsB l ++ rest, 0) = (out ++ l, (rest, 0))
  | [], out, rest, _ => by simp [cmdsGo, cmdsB]
  | c :: l, out, rest, h => by
    simp only [List.all_cons, Bool.and_eq_true] at h
    have e : cmdsB (c :: l) ++ rest = c.bytes ++ (cmdsB l ++ rest) := by unfold cmdsB; rw [List.flatMap_cons, List.append_assoc]
    rw [List.length_cons, cmdsGo, if_pos rfl, e, cmdS_back h.1]
    dsimp only
    rw [cmdsGo_back l _ rest h.2, List.append_assoc]; rfl
theorem cmdsS_back {l : List C7} (h : l.all C7.ok = true) (hl : l.length ≤ 1024) (rest : List UInt8) : cmdsS (cmdsBytes l ++ rest, 0) = (l, (rest, 0)) := by
  unfold cmdsS cmdsBytes
  rw [List.append_assoc, numS_one (by omega)]
  dsimp only
  rw [if_neg (by omega), cmdsGo_back l [] rest h]
  simp
theorem cmdsGo_ok : ∀ (k : Nat) (out : List C7) (s : St), (cmdsGo k out s).2.2 = 0 → s.2 = 0 ∧ ∃ l : List C7, l.length = k ∧ l.all C7.ok = true ∧ (cmdsGo k out s).1 = out ++ l ∧ s.1 = cmdsB l ++ (cmdsGo k out s).2.1
  | 0, out, s, h => ⟨h, [], rfl, rfl, by simp [cmdsGo], by simp [cmdsGo, cmdsB]⟩
  | k + 1, out, s, h => by
    rw [cmdsGo] at *
    by_cases hs : s.2 = 0
    · rw [if_pos hs] at *
      obtain ⟨h1, l, h2, h3, h4, h5⟩ := cmdsGo_ok k _ _ h
      obtain ⟨_, g1, g2⟩ := cmdS_ok h1
      refine ⟨hs, (cmdS s).1 :: l, by simp [h2], by simp only [List.all_cons, g1, h3, Bool.and_self], by rw [h4, List.append_assoc]; rfl, ?_⟩
      rw [g2, h5]; unfold cmdsB; rw [List.flatMap_cons, List.append_assoc]
    · rw [if_neg hs] at h; exact absurd h hs
theorem cmdsS_ok {s : St} (h : (cmdsS s).2.2 = 0) : s.2 = 0 ∧ (cmdsS s).1.all C7.ok = true ∧ (cmdsS s).1.length ≤ 1024 ∧ s.1 = cmdsBytes (cmdsS s).1 ++ (cmdsS s).2.1 := by
  unfold cmdsS at *
  dsimp only at *
  by_cases h1 : 1024 < (numS s).1
  · rw [if_pos h1] at h; simp at h
  · rw [if_neg h1] at *
    by_cases h2 : (cmdsGo (numS s).1 [] (numS s).2).2.2 = 0
    · rw [if_pos h2] at *
      obtain ⟨g1, l, g2, g3, g4, g5⟩ := cmdsGo_ok _ _ _ h2
      obtain ⟨k1, k2, k3⟩ := numS_ok g1
      rw [List.nil_append] at g4
      rw [g4]
      refine ⟨k1, g3, by omega, ?_⟩
      unfold cmdsBytes
      rw [g2, List.append_assoc, ← g5, ← k3]
    · rw [if_neg h2] at h; exact absurd h h2
theorem cmdsS_bad {s : St} (h : (cmdsS s).2.2 ≠ 0) : (cmdsS s).1 = [] := by
  unfold cmdsS at *
  dsimp only at *
  split
  · rfl
  · rename_i h1
    rw [if_neg h1] at h
    split
    · rename_i h2; rw [if_pos h2] at h; exact absurd h2 h
    · rfl

def valueS (s : St) : (Nat × List C7) × St :=
  let a := numS s
  let b := cmdsS a.2
  if b.2.2 = 0 then (if setB b.1 = true then ((a.1, b.1), b.2) else ((0, []), ([], 2))) else ((0, []), b.2)
theorem setB_ok {l : List C7} (h : setB l = true) : l.all C7.ok = true ∧ l.length ≤ 1024 := by
  unfold setB at h
  simp only [Bool.and_eq_true, decide_eq_true_eq] at h
  exact ⟨h.1.2, h.1.1⟩
theorem valueS_back {t : Int} {l : List C7} (h0 : 0 ≤ t) (h1 : t ≤ 1099511627776) (h : setB l = true) (rest : List UInt8) : valueS (valueBytes t l ++ rest, 0) = ((t.toNat, l), (rest, 0)) := by
  unfold valueS valueBytes
  rw [List.append_assoc, numS_one (by omega)]
  dsimp only
  rw [cmdsS_back (setB_ok h).1 (setB_ok h).2]
  simp [h]
theorem valueS_ok {s : St} (h : (valueS s).2.2 = 0) : s.2 = 0 ∧ (valueS s).1.1 ≤ 1099511627776 ∧ setB (valueS s).1.2 = true ∧ s.1 = valueBytes (valueS s).1.1 (valueS s).1.2 ++ (valueS s).2.1 := by
  unfold valueS at *
  dsimp only at *
  by_cases h1 : (cmdsS (numS s).2).2.2 = 0
  · rw [if_pos h1] at *
    by_cases h2 : setB (cmdsS (numS s).2).1 = true
    · rw [if_pos h2] at *
      obtain ⟨g1, g2, g3, g4⟩ := cmdsS_ok h1
      obtain ⟨k1, k2, k3⟩ := numS_ok g1
      refine ⟨k1, k2, h2, ?_⟩
      unfold valueBytes
      rw [Int.toNat_natCast, List.append_assoc, ← g4, ← k3]
    · rw [if_neg h2] at h; simp at h
  · rw [if_neg h1] at h; exact absurd h h1
theorem valueS_bad {s : St} (h : (valueS s).2.2 ≠ 0) : (valueS s).1 = (0, []) := by
  unfold valueS at *
  dsimp only at *
  split
  · rename_i h1
    rw [if_pos h1] at h
    split
    · rename_i h2; rw [if_pos h2] at h; exact absurd h1 h
    · rfl
  · rfl
end Go.Proofs.YtogoibigabpkhaaGreat
/- The document's numbers as bytes: in, One, Put, Nums. -/

namespace Go.Proofs.YtogoibigabpkhaaGreat
set_option linter.unusedVariables false
open Go.RowKit
open Go.Lib (hid)

def in40 (x : Int) : Bool := decide (0 ≤ x ∧ x ≤ 1099511627776)
theorem in40_true {x : Int} : in40 x = true ↔ 0 ≤ x ∧ x ≤ 1099511627776 := by unfold in40; simp
theorem in40_false {x : Int} : in40 x = false ↔ ¬ (0 ≤ x ∧ x ≤ 1099511627776) := by unfold in40; simp
/-- Bytes as the model has them. -/
def octs (l : List UInt8) : List Value := l.map fun b => .int .u8 b.toNat
theorem octs_len (l : List UInt8) : (octs l).length = l.length := by simp [octs]
theorem octs_append (a b : List UInt8) : octs (a ++ b) = octs a ++ octs b := by simp [octs]
theorem octs_cons (a : UInt8) (b : List UInt8) : octs (a :: b) = .int .u8 a.toNat :: octs b := by simp [octs]
theorem octs_one (l : List UInt8) : ∀ u ∈ octs l, u.oneCell' = true := by
  intro u hu; simp [octs] at hu; obtain ⟨b, _, rfl⟩ := hu; rfl
/-- A slice of bytes that the call itself made. -/
abbrev OwnB (w : World) (B : Nat) (v : Value) (l : List UInt8) : Prop := w.ownsRow B 5 1 v l.length (octs l)
theorem OwnB.nil (w : World) (B : Nat) : OwnB w B (.slice none 0 0) [] := World.ownsRow_nil _ _ _ _
theorem OwnB.shape {w : World} {B : Nat} {v : Value} {l : List UInt8} (h : OwnB w B v l) :
    (v = .slice none 0 0 ∧ l = []) ∨ ∃ g cap, v = .slice (some ⟨g, 0, none⟩) l.length cap ∧ B ≤ g ∧ g < w.heap.size ∧ ∀ (j : Nat) b, l[j]? = some b → w.cell? ⟨g, j, none⟩ = some (.int .u8 b.toNat) := by
  have hl := h.lt
  rcases h.2 with ⟨rfl, h0⟩ | ⟨g, cap, cur, rfl, hb, hg, hn, hm, hs, ht⟩
  · exact .inl ⟨rfl, List.length_eq_zero_iff.1 h0⟩
  · refine .inr ⟨g, cap, rfl, hb, (hl g rfl).2, fun j b hj => ?_⟩
    have hj' := (List.getElem?_eq_some_iff.1 hj).1
    rw [h.cellAt j (by omega)]
    simp [octs, hj]
theorem Tryz.infoB : (Tryz.prog.info? 5).map (fun i => (i.zero, i.size, i.bytes)) = some (some (.int .u8 0), 1, 1) := by kernel_rfl
theorem own_monoB {w : World} {B B' : Nat} {e : TypeId} {size : Nat} {v : Value} {n : Nat} {xs : List Value} (h : w.ownsRow B e size v n xs) (hB : B' ≤ B) : w.ownsRow B' e size v n xs := by
  refine ⟨h.1, ?_⟩
  rcases h.2 with h2 | ⟨g, cap, cur, rfl, hb, r⟩
  · exact .inl h2
  · exact .inr ⟨g, cap, cur, rfl, Nat.le_trans hB hb, r⟩
theorem OwnB.lit (w : World) (b : UInt8) : OwnB (w.alloc (.cells #[.int .u8 b.toNat] 5)) w.heap.size (.slice (some ⟨w.heap.size, 0, none⟩) 1 1) [b] :=
  ⟨rfl, .inr ⟨w.heap.size, 1, _, rfl, Nat.le_refl _, heap_alloc_new w _, Nat.le_refl _, by unfold maxLen; omega, rfl, rfl⟩⟩

theorem OwnB.below {w w' : World} {B C : Nat} {v : Value} {l : List UInt8} (h : OwnB w B v l) (hb : Below C w w') (hC : ∀ k, v.ownBlock = some k → k < C) : OwnB w' B v l := by
  refine ⟨h.1, ?_⟩
  rcases h.2 with h2 | ⟨g, cap, cur, rfl, h1, hg, r⟩
  · exact .inl h2
  · exact .inr ⟨g, cap, cur, rfl, h1, by rw [hb.block g (hC g rfl)]; exact hg, r⟩

end Go.Proofs.YtogoibigabpkhaaGreat
/- The document's Put, Nums: numbers' bytes, one behind the other. -/
namespace Go.Proofs.YtogoibigabpkhaaGreat
set_option linter.unusedVariables false
open Go.RowKit
open Go.Lib (hid)

/-- Numbers behind an address. -/
def SlN (w : World) (v : Value) (l : List Int) : Prop :=
  ∃ (b o cap : Nat) (a : Option Addr), v = .slice a l.length cap ∧ (0 < l.length → a = some ⟨b, o, none⟩) ∧ (∀ (j : Nat) x, l[j]? = some x → w.cell? ⟨b, o + j, none⟩ = some (.int .i64 x)) ∧ (0 < l.length → b < w.heap.size)
theorem SlN.on {w w' : World} {v : Value} {l : List Int} (h : SlN w v l) (hb : Below w.heap.size w w') : SlN w' v l := by
  obtain ⟨b, o, cap, a, rfl, ha, hc, hl⟩ := h
  refine ⟨b, o, cap, a, rfl, ha, fun j x hx => ?_, fun h0 => by have := hl h0; have := hb.size; omega⟩
  have h0 : 0 < l.length := by have := (List.getElem?_eq_some_iff.1 hx).1; omega
  rw [hb.cell (p := ⟨b, o + j, none⟩) (hl h0)]
  exact hc j x hx
theorem takeN_snoc {α : Type} {cs : List α} {k : Nat} {c : α} (hc : cs[k]? = some c) : cs.take (k + 1) = cs.take k ++ [c] := by
  rw [List.take_add_one, hc]; rfl
def putAll (l : List Int) : List UInt8 := l.flatMap fun x => oneN x.toNat
def putE (l : List Int) : Int := if l.all in40 = true then 0 else 1
def putB (l : List Int) : List UInt8 := if l.all in40 = true then putAll l else []
theorem put_ok {l : List Int} (h : l.all in40 = true) : putE l = 0 ∧ putB l = putAll l := by unfold putE putB; rw [if_pos h, if_pos h]; exact ⟨rfl, rfl⟩
theorem put_no {l : List Int} {k : Nat} {x : Int} (hx : l[k]? = some x) (h : in40 x = false) : putE l = 1 ∧ putB l = [] := by
  have : ¬ l.all in40 = true := by
    rw [List.all_eq_true]; intro hh; have := hh x (List.mem_of_getElem? hx); rw [h] at this; cases this
  unfold putE putB; rw [if_neg this, if_neg this]; exact ⟨rfl, rfl⟩
theorem putAll_len : ∀ (l : List Int), l.all in40 = true → (putAll l).length ≤ 6 * l.length
  | [], _ => by simp [putAll]
  | x :: l, h => by
    simp only [List.all_cons, Bool.and_eq_true] at h
    have h1 := in40_true.1 h.1
    have := putAll_len l h.2
    have h6 := oneN_six (n := x.toNat) (by omega)
    unfold putAll at *
    rw [List.flatMap_cons, List.length_append, List.length_cons]; omega
theorem putAll_next {l : List Int} {k : Nat} {x : Int} (hx : l[k]? = some x) : putAll (l.take (k + 1)) = putAll (l.take k) ++ oneN x.toNat := by
  unfold putAll; rw [takeN_snoc hx, List.flatMap_append]; simp
theorem allN_next {l : List Int} {k : Nat} {x : Int} (h : (l.take k).all in40 = true) (hx : l[k]? = some x) (h2 : in40 x = true) : (l.take (k + 1)).all in40 = true := by
  rw [takeN_snoc hx, List.all_append, h]; simp [h2]
theorem OwnB.grows {w W0 w1 : World} {B n : Nat} {v v' : Value} {a b : List UInt8} (hB : Below B w W0) (hsz : B ≤ W0.heap.size) (hlt : ∀ k, v.ownBlock = some k → B ≤ k)
    (hown' : w1.ownsRow B 5 1 v' n (octs a ++ octs b)) (hn : n = a.length + b.length) (hg : W0.grownBy w1 v.ownBlock) : OwnB w1 B v' (a ++ b) ∧ Below B w w1 :=
  ⟨by unfold OwnB; rw [octs_append, List.length_append, ← hn]; exact hown', hB.grown hg hsz hlt⟩

theorem OwnB.asSlice {w : World} {B : Nat} {v : Value} {l : List UInt8} (h : OwnB w B v l) : ∃ (g : Option Addr) (cap n : Nat), v = .slice g n cap ∧ n = l.length := by
  rcases h.shape with ⟨e, e'⟩ | ⟨g, cap, e, _⟩
  · exact ⟨none, 0, 0, e, by rw [e']; rfl⟩
  · exact ⟨_, cap, _, e, rfl⟩

/-- A command's numbers. -/
def C7.nums (c : C7) : List Int := [c.i, c.k, c.s, c.t, c.d, c.p, c.q]
theorem C7.nums_bytes (c : C7) : putAll c.nums = c.bytes := by
  unfold putAll C7.nums C7.bytes
  simp
theorem C7.nums_ok {c : C7} (h : c.ok = true) : c.nums.all in40 = true := by
  obtain ⟨h1, h2, h3, h4, h5, h6, h7⟩ := C7.ok_small h
  unfold C7.nums
  simp only [List.all_cons, List.all_nil, Bool.and_true, Bool.and_eq_true, in40_true]
  refine ⟨by omega, by omega, by omega, by omega, by omega, by omega, by omega⟩
def numsAll (l : List C7) : List Int := l.flatMap C7.nums
theorem numsAll_len (l : List C7) : (numsAll l).length = 7 * l.length := by
  induction l with
  | nil => rfl
  | cons c l ih => unfold numsAll at *; rw [List.flatMap_cons, List.length_append, ih]; simp [C7.nums]; omega
theorem numsAll_next {l : List C7} {k : Nat} {c : C7} (hc : l[k]? = some c) : numsAll (l.take (k + 1)) = numsAll (l.take k) ++ c.nums := by
  unfold numsAll; rw [takeN_snoc hc, List.flatMap_append]; simp
theorem numsAll_put {l : List C7} (h : l.all C7.ok = true) (hl : l.length ≤ 1024) : putE ((l.length : Int) :: numsAll l) = 0 ∧ putB ((l.length : Int) :: numsAll l) = cmdsBytes l := by
  have ha : ((l.length : Int) :: numsAll l).all in40 = true := by
    rw [List.all_cons, in40_true.2 (by omega), Bool.true_and]
    rw [List.all_eq_true]
    intro x hx
    unfold numsAll at hx
    obtain ⟨c, hc, hxc⟩ := List.mem_flatMap.1 hx
    exact List.all_eq_true.1 (C7.nums_ok (List.all_eq_true.1 h c hc)) x hxc
  obtain ⟨h1, h2⟩ := put_ok ha
  refine ⟨h1, h2.trans ?_⟩
  unfold cmdsBytes putAll
  rw [List.flatMap_cons, Int.toNat_natCast]
  congr 1
  unfold numsAll cmdsB
  clear ha h1 h2 h hl
  induction l with
  | nil => rfl
  | cons c l ih => rw [List.flatMap_cons, List.flatMap_append, List.flatMap_cons, ih, ← C7.nums_bytes]; rfl

end Go.Proofs.YtogoibigabpkhaaGreat
/- Whether commands are a set: the program's Right, and the document's. -/
namespace Go.Proofs.YtogoibigabpkhaaGreat
set_option linter.unusedVariables false
open Go.RowKit
open Go.Lib (hid)

theorem rise_next {cs : List C7} {k : Nat} {x y : C7} (h : RiseTo cs k) (hx : cs[k - 1]? = some x) (hy : cs[k]? = some y) (hlt : x.i < y.i) : RiseTo cs (k + 1) := fun j h1 hj u z hu hz => by
  by_cases e : j = k
  · subst e; rw [hx] at hu; rw [hy] at hz; rw [← Option.some.inj hu, ← Option.some.inj hz]; exact hlt
  · exact h j h1 (by omega) u z hu hz
theorem rise_short {cs : List C7} (h : cs.length ≤ 1) : risesB cs = true := RiseTo.yes fun j h1 hj => by omega
theorem rise_one (cs : List C7) : RiseTo cs 1 := fun j h1 hj => by omega
theorem CmsAt.prev {w : World} {b o : Nat} {cs : List C7} (h : CmsAt w b o cs) {j : Nat} {c : C7} (hj : 1 ≤ j) (hc : cs[j - 1]? = some c) : w.cell? ⟨b, o + (j - 1) * 7, none⟩ = some (.int .i64 c.i) := (h.at hc).1

set_option maxHeartbeats 600000 in
set_option maxRecDepth 100000 in
theorem cSetRight {v : Value} {cs : List C7} {w : World} (h : Sl w v cs) (hl : cs.length ≤ 1024) : Calls Tryz.prog 144 #[v] w fun e w' => e = .returned (.bool (setB cs)) ∧ Below w.heap.size w w' := by
  have hR := cRight' h (by omega)
  obtain ⟨b, o, cap, a, rfl, hn, ha, hc, hb⟩ := h
  rcases hok : cs.all C7.ok with _ | _
  · rw [hok] at hR
    have HS := hid (show setB cs = false from by unfold setB; rw [hok]; simp)
    clear hok
    go_enter Tryz.func144, Tryz.ntmps144
    go_wp2_with (go_at_call 65; refine hR.mono ?_; rintro e w' ⟨rfl, hB⟩)
    go_ret
    exact ⟨ret_bool HS.out.symm, hB⟩
  · rw [hok] at hR
    have HS := hid (show setB cs = risesB cs from by unfold setB; rw [hok, decide_eq_true hl]; simp)
    clear hok
    go_enter Tryz.func144, Tryz.ntmps144
    go_wp2_with (go_at_call 65; refine hR.mono ?_; rintro e w' ⟨rfl, hB'⟩)
    go_loopw [3] (fun i wr => ∃ k : Nat, 1 ≤ k ∧ (k ≤ cs.length ∨ k = 1) ∧ i = .int .i64 k ∧ Hid (RiseTo cs k) ∧ Below w.heap.size w wr) (fun i _ => cs.length - (intOf i).toNat)
    case atStart => exact ⟨1, Nat.le_refl _, .inr rfl, rfl, rise_one _, hB'⟩
    case round =>
      clear hB'
      obtain ⟨k, h1k, hk, rfl, hak, hB⟩ := hrel
      by_cases hlt : k < cs.length
      · obtain rfl := ha (by omega)
        obtain ⟨m, rfl⟩ : ∃ m, k = m + 1 := ⟨k - 1, by omega⟩
        obtain ⟨x, hx⟩ : ∃ x, cs[m]? = some x := ⟨cs[m], List.getElem?_eq_getElem (by omega)⟩
        obtain ⟨y, hy⟩ : ∃ y, cs[m + 1]? = some y := ⟨cs[m + 1], List.getElem?_eq_getElem hlt⟩
        have hbw := hb (by omega)
        have c0 := ((hc.on hB hbw).at hx).1
        have d0 := ((hc.on hB hbw).at hy).1
        have HX := hid (And.intro hx hy)
        have HB := hid hB
        clear hx hy hB
        by_cases hxy : x.i < y.i
        · have HI := hid hxy
          go_wp2
          go_quiet (fail)
          go_wp2
          go_roundw
          case rel => exact ⟨m + 1 + 1, by omega, .inl (by omega), by go_num, rise_next hak.out HX.out.1 HX.out.2 HI.out, Below.drewN' HB.out _⟩
          case measure => simp [intOf]; omega
        · have HI := hid hxy
          go_wp2
          go_quiet (fail)
          go_wp2
          go_ret
          exact ⟨ret_bool (HS.out.trans (rises_no (k := m + 1) HX.out.1 HX.out.2 (by omega) HI.out)).symm, Below.drewN' HB.out _⟩
      · have HE : Hid (risesB cs = true) := by
          rcases hk with hk | hk
          · have : k = cs.length := by omega
            exact RiseTo.yes (this ▸ hak.out)
          · exact rise_short (by omega)
        clear hk
        go_wp2
        go_ret
        exact ⟨ret_bool (HS.out.trans HE.out).symm, hB⟩

set_option maxHeartbeats 600000 in
set_option maxRecDepth 100000 in
theorem rSetRight {v : Value} {cs : List C7} {w : World} (h : Sl w v cs) (hl : cs.length ≤ 1024) : Calls Tryz.prog 116 #[v] w fun e w' => e = .returned (.bool (setB cs)) ∧ Below w.heap.size w w' := by
  have HH := hid h
  obtain ⟨b, o, cap, a, rfl, hn, ha, hc, hb⟩ := h
  go_enter Tryz.func116, Tryz.ntmps116
  go_wp2
  go_loopw [3] (fun i wr => ∃ k : Nat, 1 ≤ k ∧ (k ≤ cs.length ∨ k = 1) ∧ i = .int .i64 k ∧ Hid (RiseTo cs k) ∧ Below w.heap.size w wr) (fun i _ => cs.length - (intOf i).toNat)
  case atStart => exact ⟨1, Nat.le_refl _, .inr rfl, rfl, rise_one _, Below.refl _ _⟩
  case round =>
    obtain ⟨k, h1k, hk, rfl, hak, hB⟩ := hrel
    by_cases hlt : k < cs.length
    · obtain rfl := ha (by omega)
      obtain ⟨m, rfl⟩ : ∃ m, k = m + 1 := ⟨k - 1, by omega⟩
      obtain ⟨x, hx⟩ : ∃ x, cs[m]? = some x := ⟨cs[m], List.getElem?_eq_getElem (by omega)⟩
      obtain ⟨y, hy⟩ : ∃ y, cs[m + 1]? = some y := ⟨cs[m + 1], List.getElem?_eq_getElem hlt⟩
      have hbw := hb (by omega)
      have c0 := ((hc.on hB hbw).at hx).1
      have d0 := ((hc.on hB hbw).at hy).1
      have HX := hid (And.intro hx hy)
      have HB := hid hB
      clear hx hy hB
      by_cases hxy : x.i < y.i
      · have HI := hid hxy
        go_wp2
        go_quiet (fail)
        go_wp2
        go_roundw
        case rel => exact ⟨m + 1 + 1, by omega, .inl (by omega), by go_num, rise_next hak.out HX.out.1 HX.out.2 HI.out, Below.drewN' HB.out _⟩
        case measure => simp [intOf]; omega
      · have HI := hid hxy
        go_wp2
        go_quiet (fail)
        go_wp2
        go_ret
        exact ⟨ret_bool (by unfold setB; rw [rises_no (k := m + 1) HX.out.1 HX.out.2 (by omega) HI.out]; simp), Below.drewN' HB.out _⟩
    · have HE : Hid (risesB cs = true) := by
        rcases hk with hk | hk
        · have : k = cs.length := by omega
          exact RiseTo.yes (this ▸ hak.out)
        · exact rise_short (by omega)
      clear hk
      have hR := rRights' (HH.out.on hB) (by omega)
      rcases hok : cs.all C7.ok with _ | _
      · rw [hok] at hR
        have HS := hid (show setB cs = false from by unfold setB; rw [hok]; simp)
        clear hok
        go_wp2_with (go_at_call 76; refine hR.mono ?_; rintro e w' ⟨rfl, hB'⟩)
        go_ret
        exact ⟨ret_bool HS.out.symm, hB.trans (hB'.mono hB.size)⟩
      · rw [hok] at hR
        have HS := hid (show setB cs = true from by unfold setB; rw [hok, HE.out, decide_eq_true hl]; rfl)
        clear hok
        go_wp2_with (go_at_call 76; refine hR.mono ?_; rintro e w' ⟨rfl, hB'⟩)
        go_ret
        exact ⟨ret_bool (by rw [HS.out]; exact decide_eq_true (by omega)), hB.trans (hB'.mono hB.size)⟩
end Go.Proofs.YtogoibigabpkhaaGreat
