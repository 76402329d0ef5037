/- The mathematics of commands and values as bytes: what is put is taken, and its bytes are the only ones. -/
import Derived.Test.YtmndjdaiailgmaaOctets
namespace Go.Proofs.Ytmndjdaiailgmaa

def C7.bytes (c : C7) : List UInt8 := oneN c.i.toNat ++ (oneN c.k.toNat ++ (oneN c.s.toNat ++ (oneN c.t.toNat ++ (oneN c.d.toNat ++ (oneN c.p.toNat ++ oneN c.q.toNat)))))
def cmdsB (l : List C7) : List UInt8 := l.flatMap C7.bytes
def cmdsBytes (l : List C7) : List UInt8 := oneN l.length ++ cmdsB l
def valueBytes (t : Int) (l : List C7) : List UInt8 := oneN t.toNat ++ cmdsBytes l

/-- A command that may be has small numbers. -/
theorem C7.ok_small {c : C7} (h : c.ok = true) : (0 ≤ c.i ∧ c.i ≤ 1048576) ∧ (0 ≤ c.k ∧ c.k ≤ 1048576) ∧ (0 ≤ c.s ∧ c.s ≤ 1048576) ∧ (0 ≤ c.t ∧ c.t ≤ 1048576) ∧ (0 ≤ c.d ∧ c.d ≤ 1048576) ∧ (0 ≤ c.p ∧ c.p ≤ 1048576) ∧ (0 ≤ c.q ∧ c.q ≤ 1048576) := by
  unfold C7.ok oneB at h
  rw [Bool.and_eq_true, Bool.and_eq_true, named_true, within_true] at h
  obtain ⟨⟨h1, h2⟩, h3⟩ := h
  split at h3
  · rename_i hk
    simp only [Bool.and_eq_true, within_true, beq_iff_eq] at h3
    obtain ⟨⟨⟨h4, h5⟩, h6⟩, h7⟩ := h3
    refine ⟨by omega, by omega, by omega, by omega, by omega, by omega, by omega⟩
  · split at h3
    · rename_i hk
      simp only [Bool.and_eq_true, within_true, named_true] at h3
      obtain ⟨⟨⟨h4, h5⟩, h6⟩, h7⟩ := h3
      refine ⟨by omega, by omega, by omega, by omega, by omega, by omega, by omega⟩
    · split at h3
      · rename_i hk
        simp only [Bool.and_eq_true, within_true, named_true] at h3
        obtain ⟨⟨⟨h4, h5⟩, h6⟩, h7⟩ := h3
        refine ⟨by omega, by omega, by omega, by omega, by omega, by omega, by omega⟩
      · cases h3

/-- Seven numbers, taken one behind the other. -/
def cmdRaw (s : St) : C7 × St :=
  let a := numS s
  let b := numS a.2
  let c := numS b.2
  let d := numS c.2
  let e := numS d.2
  let f := numS e.2
  let g := numS f.2
  (⟨a.1, b.1, c.1, d.1, e.1, f.1, g.1⟩, g.2)
def cmdS (s : St) : C7 × St :=
  let x := cmdRaw s
  if x.2.2 = 0 then (if x.1.ok = true then x else (default, ([], 2))) else (default, x.2)
theorem cmdRaw_back {c : C7} (h : c.ok = true) (rest : List UInt8) : cmdRaw (c.bytes ++ rest, 0) = (c, (rest, 0)) := by
  obtain ⟨h1, h2, h3, h4, h5, h6, h7⟩ := C7.ok_small h
  obtain ⟨i, k, s, t, d, p, q⟩ := c
  simp only at h1 h2 h3 h4 h5 h6 h7
  unfold cmdRaw C7.bytes
  simp only [List.append_assoc]
  rw [numS_one (by omega)]; dsimp only
  rw [numS_one (by omega)]; dsimp only
  rw [numS_one (by omega)]; dsimp only
  rw [numS_one (by omega)]; dsimp only
  rw [numS_one (by omega)]; dsimp only
  rw [numS_one (by omega)]; dsimp only
  rw [numS_one (by omega)]; dsimp only
  rw [Int.toNat_of_nonneg h1.1, Int.toNat_of_nonneg h2.1, Int.toNat_of_nonneg h3.1, Int.toNat_of_nonneg h4.1, Int.toNat_of_nonneg h5.1, Int.toNat_of_nonneg h6.1, Int.toNat_of_nonneg h7.1]
theorem cmdS_back {c : C7} (h : c.ok = true) (rest : List UInt8) : cmdS (c.bytes ++ rest, 0) = (c, (rest, 0)) := by
  unfold cmdS
  rw [cmdRaw_back h]
  simp [h]
theorem cmdRaw_ok {s : St} (h : (cmdRaw s).2.2 = 0) : s.2 = 0 ∧ s.1 = (cmdRaw s).1.bytes ++ (cmdRaw s).2.1 := by
  unfold cmdRaw at *
  dsimp only at h
  have g := numS_ok h
  have f := numS_ok g.1
  have e := numS_ok f.1
  have d := numS_ok e.1
  have c := numS_ok d.1
  have b := numS_ok c.1
  have a := numS_ok b.1
  refine ⟨a.1, ?_⟩
  unfold C7.bytes
  simp only [Int.toNat_natCast, List.append_assoc]
  rw [← g.2.2, ← f.2.2, ← e.2.2, ← d.2.2, ← c.2.2, ← b.2.2, ← a.2.2]
theorem cmdS_ok {s : St} (h : (cmdS s).2.2 = 0) : s.2 = 0 ∧ (cmdS s).1.ok = true ∧ s.1 = (cmdS s).1.bytes ++ (cmdS s).2.1 := by
  unfold cmdS at *
  dsimp only at *
  by_cases h1 : (cmdRaw s).2.2 = 0
  · rw [if_pos h1] at *
    by_cases h2 : (cmdRaw s).1.ok = true
    · rw [if_pos h2] at *
      exact ⟨(cmdRaw_ok h1).1, h2, (cmdRaw_ok h1).2⟩
    · rw [if_neg h2] at h; simp at h
  · rw [if_neg h1] at h; exact absurd h h1

/-- So many commands, as long as nothing is wrong. -/
def cmdsGo : Nat → List C7 → St → List C7 × St
  | 0, out, s => (out, s)
  | k + 1, out, s => if s.2 = 0 then cmdsGo k (out ++ [(cmdS s).1]) (cmdS s).2 else (out, s)
def cmdsS (s : St) : List C7 × St :=
  let a := numS s
  if 1024 < a.1 then ([], ([], 2)) else
    let b := cmdsGo a.1 [] a.2
    if b.2.2 = 0 then b else ([], b.2)
theorem cmdsGo_back : ∀ (l out : List C7) (rest : List UInt8), l.all C7.ok = true → cmdsGo l.length out (cmdsB l ++ rest, 0) = (out ++ l, (rest, 0))
  | [], out, rest, _ => by simp [cmdsGo, cmdsB]
  | c :: l, out, rest, h => by
    simp only [List.all_cons, Bool.and_eq_true] at h
    have e : cmdsB (c :: l) ++ rest = c.bytes ++ (cmdsB l ++ rest) := by unfold cmdsB; rw [List.flatMap_cons, List.append_assoc]
    rw [List.length_cons, cmdsGo, if_pos rfl, e, cmdS_back h.1]
    dsimp only
    rw [cmdsGo_back l _ rest h.2, List.append_assoc]; rfl
theorem cmdsS_back {l : List C7} (h : l.all C7.ok = true) (hl : l.length ≤ 1024) (rest : List UInt8) : cmdsS (cmdsBytes l ++ rest, 0) = (l, (rest, 0)) := by
  unfold cmdsS cmdsBytes
  rw [List.append_assoc, numS_one (by omega)]
  dsimp only
  rw [if_neg (by omega), cmdsGo_back l [] rest h]
  simp
theorem cmdsGo_ok : ∀ (k : Nat) (out : List C7) (s : St), (cmdsGo k out s).2.2 = 0 → s.2 = 0 ∧ ∃ l : List C7, l.length = k ∧ l.all C7.ok = true ∧ (cmdsGo k out s).1 = out ++ l ∧ s.1 = cmdsB l ++ (cmdsGo k out s).2.1
  | 0, out, s, h => ⟨h, [], rfl, rfl, by simp [cmdsGo], by simp [cmdsGo, cmdsB]⟩
  | k + 1, out, s, h => by
    rw [cmdsGo] at *
    by_cases hs : s.2 = 0
    · rw [if_pos hs] at *
      obtain ⟨h1, l, h2, h3, h4, h5⟩ := cmdsGo_ok k _ _ h
      obtain ⟨_, g1, g2⟩ := cmdS_ok h1
      refine ⟨hs, (cmdS s).1 :: l, by simp [h2], by simp only [List.all_cons, g1, h3, Bool.and_self], by rw [h4, List.append_assoc]; rfl, ?_⟩
      rw [g2, h5]; unfold cmdsB; rw [List.flatMap_cons, List.append_assoc]
    · rw [if_neg hs] at h; exact absurd h hs
theorem cmdsS_ok {s : St} (h : (cmdsS s).2.2 = 0) : s.2 = 0 ∧ (cmdsS s).1.all C7.ok = true ∧ (cmdsS s).1.length ≤ 1024 ∧ s.1 = cmdsBytes (cmdsS s).1 ++ (cmdsS s).2.1 := by
  unfold cmdsS at *
  dsimp only at *
  by_cases h1 : 1024 < (numS s).1
  · rw [if_pos h1] at h; simp at h
  · rw [if_neg h1] at *
    by_cases h2 : (cmdsGo (numS s).1 [] (numS s).2).2.2 = 0
    · rw [if_pos h2] at *
      obtain ⟨g1, l, g2, g3, g4, g5⟩ := cmdsGo_ok _ _ _ h2
      obtain ⟨k1, k2, k3⟩ := numS_ok g1
      rw [List.nil_append] at g4
      rw [g4]
      refine ⟨k1, g3, by omega, ?_⟩
      unfold cmdsBytes
      rw [g2, List.append_assoc, ← g5, ← k3]
    · rw [if_neg h2] at h; exact absurd h h2
theorem cmdsS_bad {s : St} (h : (cmdsS s).2.2 ≠ 0) : (cmdsS s).1 = [] := by
  unfold cmdsS at *
  dsimp only at *
  split
  · rfl
  · rename_i h1
    rw [if_neg h1] at h
    split
    · rename_i h2; rw [if_pos h2] at h; exact absurd h2 h
    · rfl

def valueS (s : St) : (Nat × List C7) × St :=
  let a := numS s
  let b := cmdsS a.2
  if b.2.2 = 0 then (if setB b.1 = true then ((a.1, b.1), b.2) else ((0, []), ([], 2))) else ((0, []), b.2)
theorem setB_ok {l : List C7} (h : setB l = true) : l.all C7.ok = true ∧ l.length ≤ 1024 := by
  unfold setB at h
  simp only [Bool.and_eq_true, decide_eq_true_eq] at h
  exact ⟨h.1.2, h.1.1⟩
theorem valueS_back {t : Int} {l : List C7} (h0 : 0 ≤ t) (h1 : t ≤ 1099511627776) (h : setB l = true) (rest : List UInt8) : valueS (valueBytes t l ++ rest, 0) = ((t.toNat, l), (rest, 0)) := by
  unfold valueS valueBytes
  rw [List.append_assoc, numS_one (by omega)]
  dsimp only
  rw [cmdsS_back (setB_ok h).1 (setB_ok h).2]
  simp [h]
theorem valueS_ok {s : St} (h : (valueS s).2.2 = 0) : s.2 = 0 ∧ (valueS s).1.1 ≤ 1099511627776 ∧ setB (valueS s).1.2 = true ∧ s.1 = valueBytes (valueS s).1.1 (valueS s).1.2 ++ (valueS s).2.1 := by
  unfold valueS at *
  dsimp only at *
  by_cases h1 : (cmdsS (numS s).2).2.2 = 0
  · rw [if_pos h1] at *
    by_cases h2 : setB (cmdsS (numS s).2).1 = true
    · rw [if_pos h2] at *
      obtain ⟨g1, g2, g3, g4⟩ := cmdsS_ok h1
      obtain ⟨k1, k2, k3⟩ := numS_ok g1
      refine ⟨k1, k2, h2, ?_⟩
      unfold valueBytes
      rw [Int.toNat_natCast, List.append_assoc, ← g4, ← k3]
    · rw [if_neg h2] at h; simp at h
  · rw [if_neg h1] at h; exact absurd h h1
theorem valueS_bad {s : St} (h : (valueS s).2.2 ≠ 0) : (valueS s).1 = (0, []) := by
  unfold valueS at *
  dsimp only at *
  split
  · rename_i h1
    rw [if_pos h1] at h
    split
    · rename_i h2; rw [if_pos h2] at h; exact absurd h1 h
    · rfl
  · rfl
end Go.Proofs.Ytmndjdaiailgmaa
