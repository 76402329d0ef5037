import Derived.Test.YtpkkmfppdhjpkaaGreatSetsM
import Derived.Test.YtpkkmfppdhjpkaaGreatGa04
import Derived.Laws.OwnMore
/- The mathematics of numbers as bytes: seven bits in each, the lowest first; what is put is taken, and its bytes are the only ones. -/
namespace Go.Proofs.YtpkkmfppdhjpkaaGreat

/-- A number's bytes. -/
def oneN (n : Nat) : List UInt8 :=
  if h : n < 128 then [UInt8.ofNat n] else UInt8.ofNat (n % 128 + 128) :: oneN (n / 128)
termination_by n
decreasing_by omega
theorem oneN_small {n : Nat} (h : n < 128) : oneN n = [UInt8.ofNat n] := by rw [oneN, dif_pos h]
theorem oneN_big {n : Nat} (h : ¬ n < 128) : oneN n = UInt8.ofNat (n % 128 + 128) :: oneN (n / 128) := by rw [oneN, dif_neg h]

/-- What taking a number comes to. -/
inductive Got where
  | ok (n : Nat) (rest : List UInt8)
  | cut
  | form
/-- The bytes from number i on, n being what came, unit what the next one counts; f more bytes may come. -/
def numGo : (f : Nat) → (i unit n : Nat) → List UInt8 → Got
  | 0, _, _, _, _ => .form
  | _ + 1, _, _, _, [] => .cut
  | f + 1, i, unit, n, b :: bs =>
    if b.toNat < 128 then
      if (0 < i ∧ b.toNat = 0) ∨ 1099511627776 < n + b.toNat * unit then .form else .ok (n + b.toNat * unit) bs
    else numGo f (i + 1) (128 * unit) (n + b.toNat % 128 * unit) bs
def numOf (bs : List UInt8) : Got := numGo 6 0 1 0 bs

theorem toNat_small {n : Nat} (h : n < 256) : (UInt8.ofNat n).toNat = n := by
  rw [UInt8.toNat_ofNat']; omega
/-- What was put is taken. -/
theorem numGo_one : ∀ (f i unit acc n : Nat) (rest : List UInt8), n < 128 ^ (f + 1) → (0 < i → 0 < n) → acc + n * unit ≤ 1099511627776 → numGo (f + 1) i unit acc (oneN n ++ rest) = .ok (acc + n * unit) rest
  | f, i, unit, acc, n, rest, h, hi, hm => by
    by_cases hn : n < 128
    · rw [oneN_small hn, List.singleton_append, numGo, toNat_small (by omega), if_pos hn, if_neg (by omega)]
    · rw [oneN_big hn, List.cons_append, numGo, toNat_small (by omega), if_neg (by omega)]
      have h1 : (n % 128 + 128) % 128 = n % 128 := by omega
      have h2 : acc + n % 128 * unit + n / 128 * (128 * unit) = acc + n * unit := by
        have e1 : n * unit = (128 * (n / 128) + n % 128) * unit := by rw [Nat.div_add_mod]
        rw [e1, Nat.add_mul]
        have e2 : n / 128 * (128 * unit) = 128 * (n / 128) * unit := by rw [← Nat.mul_assoc, Nat.mul_comm (n / 128) 128]
        omega
      match f, h with
      | 0, h => omega
      | f + 1, h => rw [h1, numGo_one f (i + 1) (128 * unit) (acc + n % 128 * unit) (n / 128) rest (by rw [Nat.pow_succ] at h; omega) (by omega) (by omega), h2]
theorem numOf_one {n : Nat} (h : n ≤ 1099511627776) (rest : List UInt8) : numOf (oneN n ++ rest) = .ok n rest := by
  have := numGo_one 5 0 1 0 n rest (by omega) (by omega) (by omega)
  simpa [numOf] using this
/-- What is taken has its bytes ahead of what is left. -/
theorem numGo_ok : ∀ (f i unit acc : Nat) (bs : List UInt8) (m : Nat) (rest : List UInt8), numGo f i unit acc bs = .ok m rest → ∃ n, m = acc + n * unit ∧ bs = oneN n ++ rest ∧ m ≤ 1099511627776 ∧ (0 < i → 0 < n)
  | 0, i, unit, acc, bs, m, rest, h => by simp [numGo] at h
  | f + 1, i, unit, acc, [], m, rest, h => by simp [numGo] at h
  | f + 1, i, unit, acc, b :: bs, m, rest, h => by
    have hb := b.toNat_lt
    rw [numGo] at h
    split at h
    · rename_i hlt
      split at h
      · cases h
      · rename_i hno
        cases h
        refine ⟨b.toNat, rfl, ?_, by omega, fun hi => by omega⟩
        rw [oneN_small hlt, List.singleton_append, UInt8.ofNat_toNat]
    · rename_i hge
      obtain ⟨n, hm, hbs, hle, hpos⟩ := numGo_ok f (i + 1) (128 * unit) _ bs m rest h
      have hp := hpos (by omega)
      refine ⟨b.toNat % 128 + 128 * n, ?_, ?_, hle, fun _ => by omega⟩
      · rw [hm, Nat.add_mul]
        have e2 : n * (128 * unit) = 128 * n * unit := by rw [← Nat.mul_assoc, Nat.mul_comm n 128]
        omega
      · rw [oneN_big (by omega), hbs, List.cons_append]
        rw [show (b.toNat % 128 + 128 * n) / 128 = n by omega, show (b.toNat % 128 + 128 * n) % 128 + 128 = b.toNat by omega, UInt8.ofNat_toNat]
theorem numOf_ok {bs rest : List UInt8} {n : Nat} (h : numOf bs = .ok n rest) : n ≤ 1099511627776 ∧ bs = oneN n ++ rest := by
  obtain ⟨k, hk, hb, hle, _⟩ := numGo_ok 6 0 1 0 bs n rest h
  have : n = k := by omega
  subst this
  exact ⟨hle, hb⟩
theorem oneN_ne (n : Nat) : oneN n ≠ [] := by
  by_cases h : n < 128
  · rw [oneN_small h]; simp
  · rw [oneN_big h]; simp
theorem oneN_len : ∀ (f n : Nat), n < 128 ^ (f + 1) → (oneN n).length ≤ f + 1
  | 0, n, h => by rw [oneN_small (by omega)]; simp
  | f + 1, n, h => by
    by_cases hn : n < 128
    · rw [oneN_small hn]; simp
    · rw [oneN_big hn, List.length_cons]
      have := oneN_len f (n / 128) (by rw [Nat.pow_succ] at h; omega)
      omega
theorem oneN_six {n : Nat} (h : n ≤ 1099511627776) : (oneN n).length ≤ 6 := oneN_len 5 n (by omega)

/-! A reader: the bytes that are left, and what went wrong. -/
abbrev St := List UInt8 × Int
def numS (s : St) : Nat × St :=
  if s.2 = 0 then
    match numOf s.1 with
    | .ok n r => (n, (r, 0))
    | .cut => (0, ([], 3))
    | .form => (0, ([], 2))
  else (0, s)
theorem numS_wrong {s : St} (h : s.2 ≠ 0) : numS s = (0, s) := by unfold numS; rw [if_neg h]
theorem numS_one {n : Nat} (h : n ≤ 1099511627776) (rest : List UInt8) : numS (oneN n ++ rest, 0) = (n, (rest, 0)) := by
  unfold numS; rw [if_pos rfl, numOf_one h]
theorem numS_ok {s : St} (h : (numS s).2.2 = 0) : s.2 = 0 ∧ (numS s).1 ≤ 1099511627776 ∧ s.1 = oneN (numS s).1 ++ (numS s).2.1 := by
  unfold numS at *
  by_cases hs : s.2 = 0
  · rw [if_pos hs] at *
    rcases hn : numOf s.1 with ⟨n, r⟩ | _ | _
    · rw [hn] at h
      exact ⟨hs, numOf_ok hn⟩
    · rw [hn] at h; simp at h
    · rw [hn] at h; simp at h
  · rw [if_neg hs] at h; exact absurd h hs
theorem numS_bad {s : St} (h : (numS s).2.2 ≠ 0) : (numS s).1 = 0 := by
  unfold numS at *
  by_cases hs : s.2 = 0
  · rw [if_pos hs] at *
    rcases hn : numOf s.1 with ⟨n, r⟩ | _ | _
    · rw [hn] at h; simp at h
    · rfl
    · rfl
  · rw [if_neg hs]
end Go.Proofs.YtpkkmfppdhjpkaaGreat
/- The mathematics of commands and values as bytes: what is put is taken, and its bytes are the only ones. -/
namespace Go.Proofs.YtpkkmfppdhjpkaaGreat

def C7.bytes (c : C7) : List UInt8 := oneN c.i.toNat ++ (oneN c.k.toNat ++ (oneN c.s.toNat ++ (oneN c.t.toNat ++ (oneN c.d.toNat ++ (oneN c.p.toNat ++ oneN c.q.toNat)))))
def cmdsB (l : List C7) : List UInt8 := l.flatMap C7.bytes
def cmdsBytes (l : List C7) : List UInt8 := oneN l.length ++ cmdsB l
def valueBytes (t : Int) (l : List C7) : List UInt8 := oneN t.toNat ++ cmdsBytes l

/-- A command that may be has small numbers. -/
theorem C7.ok_small {c : C7} (h : c.ok = true) : (0 ≤ c.i ∧ c.i ≤ 1048576) ∧ (0 ≤ c.k ∧ c.k ≤ 1048576) ∧ (0 ≤ c.s ∧ c.s ≤ 1048576) ∧ (0 ≤ c.t ∧ c.t ≤ 1048576) ∧ (0 ≤ c.d ∧ c.d ≤ 1048576) ∧ (0 ≤ c.p ∧ c.p ≤ 1048576) ∧ (0 ≤ c.q ∧ c.q ≤ 1048576) := by
  unfold C7.ok oneB at h
  rw [Bool.and_eq_true, Bool.and_eq_true, named_true, within_true] at h
  obtain ⟨⟨h1, h2⟩, h3⟩ := h
  split at h3
  · rename_i hk
    simp only [Bool.and_eq_true, within_true, beq_iff_eq] at h3
    obtain ⟨⟨⟨h4, h5⟩, h6⟩, h7⟩ := h3
    refine ⟨by omega, by omega, by omega, by omega, by omega, by omega, by omega⟩
  · split at h3
    · rename_i hk
      simp only [Bool.and_eq_true, within_true, named_true] at h3
      obtain ⟨⟨⟨h4, h5⟩, h6⟩, h7⟩ := h3
      refine ⟨by omega, by omega, by omega, by omega, by omega, by omega, by omega⟩
    · split at h3
      · rename_i hk
        simp only [Bool.and_eq_true, within_true, named_true] at h3
        obtain ⟨⟨⟨h4, h5⟩, h6⟩, h7⟩ := h3
        refine ⟨by omega, by omega, by omega, by omega, by omega, by omega, by omega⟩
      · cases h3

/-- Seven numbers, taken one behind the other. -/
def cmdRaw (s : St) : C7 × St :=
  let a := numS s
  let b := numS a.2
  let c := numS b.2
  let d := numS c.2
  let e := numS d.2
  let f := numS e.2
  let g := numS f.2
  (⟨a.1, b.1, c.1, d.1, e.1, f.1, g.1⟩, g.2)
def cmdS (s : St) : C7 × St :=
  let x := cmdRaw s
  if x.2.2 = 0 then (if x.1.ok = true then x else (default, ([], 2))) else (default, x.2)
theorem cmdRaw_back {c : C7} (h : c.ok = true) (rest : List UInt8) : cmdRaw (c.bytes ++ rest, 0) = (c, (rest, 0)) := by
  obtain ⟨h1, h2, h3, h4, h5, h6, h7⟩ := C7.ok_small h
  obtain ⟨i, k, s, t, d, p, q⟩ := c
  simp only at h1 h2 h3 h4 h5 h6 h7
  unfold cmdRaw C7.bytes
  simp only [List.append_assoc]
  rw [numS_one (by omega)]; dsimp only
  rw [numS_one (by omega)]; dsimp only
  rw [numS_one (by omega)]; dsimp only
  rw [numS_one (by omega)]; dsimp only
  rw [numS_one (by omega)]; dsimp only
  rw [numS_one (by omega)]; dsimp only
  rw [numS_one (by omega)]; dsimp only
  rw [Int.toNat_of_nonneg h1.1, Int.toNat_of_nonneg h2.1, Int.toNat_of_nonneg h3.1, Int.toNat_of_nonneg h4.1, Int.toNat_of_nonneg h5.1, Int.toNat_of_nonneg h6.1, Int.toNat_of_nonneg h7.1]
theorem cmdS_back {c : C7} (h : c.ok = true) (rest : List UInt8) : cmdS (c.bytes ++ rest, 0) = (c, (rest, 0)) := by
  unfold cmdS
  rw [cmdRaw_back h]
  simp [h]
theorem cmdRaw_ok {s : St} (h : (cmdRaw s).2.2 = 0) : s.2 = 0 ∧ s.1 = (cmdRaw s).1.bytes ++ (cmdRaw s).2.1 := by
  unfold cmdRaw at *
  dsimp only at h
  have g := numS_ok h
  have f := numS_ok g.1
  have e := numS_ok f.1
  have d := numS_ok e.1
  have c := numS_ok d.1
  have b := numS_ok c.1
  have a := numS_ok b.1
  refine ⟨a.1, ?_⟩
  unfold C7.bytes
  simp only [Int.toNat_natCast, List.append_assoc]
  rw [← g.2.2, ← f.2.2, ← e.2.2, ← d.2.2, ← c.2.2, ← b.2.2, ← a.2.2]
theorem cmdS_ok {s : St} (h : (cmdS s).2.2 = 0) : s.2 = 0 ∧ (cmdS s).1.ok = true ∧ s.1 = (cmdS s).1.bytes ++ (cmdS s).2.1 := by
  unfold cmdS at *
  dsimp only at *
  by_cases h1 : (cmdRaw s).2.2 = 0
  · rw [if_pos h1] at *
    by_cases h2 : (cmdRaw s).1.ok = true
    · rw [if_pos h2] at *
      exact ⟨(cmdRaw_ok h1).1, h2, (cmdRaw_ok h1).2⟩
    · rw [if_neg h2] at h; simp at h
  · rw [if_neg h1] at h; exact absurd h h1

/-- So many commands, as long as nothing is wrong. -/
def cmdsGo : Nat → List C7 → St → List C7 × St
  | 0, out, s => (out, s)
  | k + 1, out, s => if s.2 = 0 then cmdsGo k (out ++ [(cmdS s).1]) (cmdS s).2 else (out, s)
def cmdsS (s : St) : List C7 × St :=
  let a := numS s
  if 1024 < a.1 then ([], ([], 2)) else
    let b := cmdsGo a.1 [] a.2
    if b.2.2 = 0 then b else ([], b.2)
theorem cmdsGo_back : ∀ (l out : List C7) (rest : List UInt8), l.all C7.ok = true → cmdsGo l.length out (cmdsB l ++ rest, 0) = (out ++ l, (rest, 0))
  | [], out, rest, _ => by simp [cmdsGo, cmdsB]
  | c :: l, out, rest, h => by
    simp only [List.all_cons, Bool.and_eq_true] at h
    have e : cmdsB (c :: l) ++ rest = c.bytes ++ (cmdsB l ++ rest) := by unfold cmdsB; rw [List.flatMap_cons, List.append_assoc]
    rw [List.length_cons, cmdsGo, if_pos rfl, e, cmdS_back h.1]
    dsimp only
    rw [cmdsGo_back l _ rest h.2, List.append_assoc]; rfl
theorem cmdsS_back {l : List C7} (h : l.all C7.ok = true) (hl : l.length ≤ 1024) (rest : List UInt8) : cmdsS (cmdsBytes l ++ rest, 0) = (l, (rest, 0)) := by
  unfold cmdsS cmdsBytes
  rw [List.append_assoc, numS_one (by omega)]
  dsimp only
  rw [if_neg (by omega), cmdsGo_back l [] rest h]
  simp
theorem cmdsGo_ok : ∀ (k : Nat) (out : List C7) (s : St), (cmdsGo k out s).2.2 = 0 → s.2 = 0 ∧ ∃ l : List C7, l.length = k ∧ l.all C7.ok = true ∧ (cmdsGo k out s).1 = out ++ l ∧ s.1 = cmdsB l ++ (cmdsGo k out s).2.1
  | 0, out, s, h => ⟨h, [], rfl, rfl, by simp [cmdsGo], by simp [cmdsGo, cmdsB]⟩
  | k + 1, out, s, h => by
    rw [cmdsGo] at *
    by_cases hs : s.2 = 0
    · rw [if_pos hs] at *
      obtain ⟨h1, l, h2, h3, h4, h5⟩ := cmdsGo_ok k _ _ h
      obtain ⟨_, g1, g2⟩ := cmdS_ok h1
      refine ⟨hs, (cmdS s).1 :: l, by simp [h2], by simp only [List.all_cons, g1, h3, Bool.and_self], by rw [h4, List.append_assoc]; rfl, ?_⟩
      rw [g2, h5]; unfold cmdsB; rw [List.flatMap_cons, List.append_assoc]
    · rw [if_neg hs] at h; exact absurd h hs
theorem cmdsS_ok {s : St} (h : (cmdsS s).2.2 = 0) : s.2 = 0 ∧ (cmdsS s).1.all C7.ok = true ∧ (cmdsS s).1.length ≤ 1024 ∧ s.1 = cmdsBytes (cmdsS s).1 ++ (cmdsS s).2.1 := by
  unfold cmdsS at *
  dsimp only at *
  by_cases h1 : 1024 < (numS s).1
  · rw [if_pos h1] at h; simp at h
  · rw [if_neg h1] at *
    by_cases h2 : (cmdsGo (numS s).1 [] (numS s).2).2.2 = 0
    · rw [if_pos h2] at *
      obtain ⟨g1, l, g2, g3, g4, g5⟩ := cmdsGo_ok _ _ _ h2
      obtain ⟨k1, k2, k3⟩ := numS_ok g1
      rw [List.nil_append] at g4
      rw [g4]
      refine ⟨k1, g3, by omega, ?_⟩
      unfold cmdsBytes
      rw [g2, List.append_assoc, ← g5, ← k3]
    · rw [if_neg h2] at h; exact absurd h h2
theorem cmdsS_bad {s : St} (h : (cmdsS s).2.2 ≠ 0) : (cmdsS s).1 = [] := by
  unfold cmdsS at *
  dsimp only at *
  split
  · rfl
  · rename_i h1
    rw [if_neg h1] at h
    split
    · rename_i h2; rw [if_pos h2] at h; exact absurd h2 h
    · rfl

def valueS (s : St) : (Nat × List C7) × St :=
  let a := numS s
  let b := cmdsS a.2
  if b.2.2 = 0 then (if setB b.1 = true then ((a.1, b.1), b.2) else ((0, []), ([], 2))) else ((0, []), b.2)
theorem setB_ok {l : List C7} (h : setB l = true) : l.all C7.ok = true ∧ l.length ≤ 1024 := by
  unfold setB at h
  simp only [Bool.and_eq_true, decide_eq_true_eq] at h
  exact ⟨h.1.2, h.1.1⟩
theorem valueS_back {t : Int} {l : List C7} (h0 : 0 ≤ t) (h1 : t ≤ 1099511627776) (h : setB l = true) (rest : List UInt8) : valueS (valueBytes t l ++ rest, 0) = ((t.toNat, l), (rest, 0)) := by
  unfold valueS valueBytes
  rw [List.append_assoc, numS_one (by omega)]
  dsimp only
  rw [cmdsS_back (setB_ok h).1 (setB_ok h).2]
  simp [h]
theorem valueS_ok {s : St} (h : (valueS s).2.2 = 0) : s.2 = 0 ∧ (valueS s).1.1 ≤ 1099511627776 ∧ setB (valueS s).1.2 = true ∧ s.1 = valueBytes (valueS s).1.1 (valueS s).1.2 ++ (valueS s).2.1 := by
  unfold valueS at *
  dsimp only at *
  by_cases h1 : (cmdsS (numS s).2).2.2 = 0
  · rw [if_pos h1] at *
    by_cases h2 : setB (cmdsS (numS s).2).1 = true
    · rw [if_pos h2] at *
      obtain ⟨g1, g2, g3, g4⟩ := cmdsS_ok h1
      obtain ⟨k1, k2, k3⟩ := numS_ok g1
      refine ⟨k1, k2, h2, ?_⟩
      unfold valueBytes
      rw [Int.toNat_natCast, List.append_assoc, ← g4, ← k3]
    · rw [if_neg h2] at h; simp at h
  · rw [if_neg h1] at h; exact absurd h h1
theorem valueS_bad {s : St} (h : (valueS s).2.2 ≠ 0) : (valueS s).1 = (0, []) := by
  unfold valueS at *
  dsimp only at *
  split
  · rename_i h1
    rw [if_pos h1] at h
    split
    · rename_i h2; rw [if_pos h2] at h; exact absurd h1 h
    · rfl
  · rfl
end Go.Proofs.YtpkkmfppdhjpkaaGreat
/- The document's numbers as bytes: in, One, Put, Nums. -/

namespace Go.Proofs.YtpkkmfppdhjpkaaGreat
set_option linter.unusedVariables false
open Go.RowKit
open Go.Lib (hid)

def in40 (x : Int) : Bool := decide (0 ≤ x ∧ x ≤ 1099511627776)
theorem in40_true {x : Int} : in40 x = true ↔ 0 ≤ x ∧ x ≤ 1099511627776 := by unfold in40; simp
theorem in40_false {x : Int} : in40 x = false ↔ ¬ (0 ≤ x ∧ x ≤ 1099511627776) := by unfold in40; simp
/-- Bytes as the model has them. -/
def octs (l : List UInt8) : List Value := l.map fun b => .int .u8 b.toNat
theorem octs_len (l : List UInt8) : (octs l).length = l.length := by simp [octs]
theorem octs_append (a b : List UInt8) : octs (a ++ b) = octs a ++ octs b := by simp [octs]
theorem octs_cons (a : UInt8) (b : List UInt8) : octs (a :: b) = .int .u8 a.toNat :: octs b := by simp [octs]
theorem octs_one (l : List UInt8) : ∀ u ∈ octs l, u.oneCell' = true := by
  intro u hu; simp [octs] at hu; obtain ⟨b, _, rfl⟩ := hu; rfl
/-- A slice of bytes that the call itself made. -/
abbrev OwnB (w : World) (B : Nat) (v : Value) (l : List UInt8) : Prop := w.ownsRow B 5 1 v l.length (octs l)
theorem OwnB.nil (w : World) (B : Nat) : OwnB w B (.slice none 0 0) [] := World.ownsRow_nil _ _ _ _
theorem OwnB.shape {w : World} {B : Nat} {v : Value} {l : List UInt8} (h : OwnB w B v l) :
    (v = .slice none 0 0 ∧ l = []) ∨ ∃ g cap, v = .slice (some ⟨g, 0, none⟩) l.length cap ∧ B ≤ g ∧ g < w.heap.size ∧ ∀ (j : Nat) b, l[j]? = some b → w.cell? ⟨g, j, none⟩ = some (.int .u8 b.toNat) := by
  have hl := h.lt
  rcases h.2 with ⟨rfl, h0⟩ | ⟨g, cap, cur, rfl, hb, hg, hn, hm, hs, ht⟩
  · exact .inl ⟨rfl, List.length_eq_zero_iff.1 h0⟩
  · refine .inr ⟨g, cap, rfl, hb, (hl g rfl).2, fun j b hj => ?_⟩
    have hj' := (List.getElem?_eq_some_iff.1 hj).1
    rw [h.cellAt j (by omega)]
    simp [octs, hj]
theorem Tryz.infoB : (Tryz.prog.info? 5).map (fun i => (i.zero, i.size, i.bytes)) = some (some (.int .u8 0), 1, 1) := by kernel_rfl
theorem own_monoB {w : World} {B B' : Nat} {e : TypeId} {size : Nat} {v : Value} {n : Nat} {xs : List Value} (h : w.ownsRow B e size v n xs) (hB : B' ≤ B) : w.ownsRow B' e size v n xs := by
  refine ⟨h.1, ?_⟩
  rcases h.2 with h2 | ⟨g, cap, cur, rfl, hb, r⟩
  · exact .inl h2
  · exact .inr ⟨g, cap, cur, rfl, Nat.le_trans hB hb, r⟩
theorem OwnB.lit (w : World) (b : UInt8) : OwnB (w.alloc (.cells #[.int .u8 b.toNat] 5)) w.heap.size (.slice (some ⟨w.heap.size, 0, none⟩) 1 1) [b] :=
  ⟨rfl, .inr ⟨w.heap.size, 1, _, rfl, Nat.le_refl _, heap_alloc_new w _, Nat.le_refl _, by unfold maxLen; omega, rfl, rfl⟩⟩

theorem OwnB.below {w w' : World} {B C : Nat} {v : Value} {l : List UInt8} (h : OwnB w B v l) (hb : Below C w w') (hC : ∀ k, v.ownBlock = some k → k < C) : OwnB w' B v l := by
  refine ⟨h.1, ?_⟩
  rcases h.2 with h2 | ⟨g, cap, cur, rfl, h1, hg, r⟩
  · exact .inl h2
  · exact .inr ⟨g, cap, cur, rfl, h1, by rw [hb.block g (hC g rfl)]; exact hg, r⟩

end Go.Proofs.YtpkkmfppdhjpkaaGreat
