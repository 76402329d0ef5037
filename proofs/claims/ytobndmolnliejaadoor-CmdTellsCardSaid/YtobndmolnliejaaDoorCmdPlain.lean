/- Plain mathematics of a command's text: its words, splitting at blanks, numbers read back from their figures. No program in this text. -/
import Derived.Lib.AtoiTie
import Derived.Lib.ItoaLen
import Derived.Lib.SplitLaws
import Derived.Lib.Join
import Derived.Lib.IndexLaws
import Derived.Lib.IndexBytes
namespace Go.Proofs.YtobndmolnliejaaDoor
open Go.Lib

/-! ### Splitting at blanks -/
def spl : Nat → List UInt8 → List (List UInt8)
  | 0, l => [l]
  | k + 1, l => if indexByte l 32 = -1 then [l] else l.take (indexByte l 32).toNat :: spl k (l.drop ((indexByte l 32).toNat + 1))

theorem index_app (w r : List UInt8) (h : (32 : UInt8) ∉ w) : indexByte (w ++ 32 :: r) 32 = w.length := by
  induction w with
  | nil => simp [indexByte]
  | cons b l ih =>
    have hb : ¬ (b == 32) = true := fun e => h (by simp [beq_iff_eq.1 e])
    have ih' := ih (fun e => h (by simp [e]))
    simp only [List.cons_append, indexByte, if_neg hb, ih']
    rw [if_neg (by intro e; have := beq_iff_eq.1 e; omega)]
    simp
theorem index_no (w : List UInt8) (h : (32 : UInt8) ∉ w) : indexByte w 32 = -1 := by
  induction w with
  | nil => rfl
  | cons b l ih =>
    have ih' := ih (fun e => h (by simp [e]))
    have hb' : ¬ b = 32 := fun e => h (by simp [e])
    simp [indexByte, hb', ih']
theorem spl_cons (k : Nat) (w r : List UInt8) (h : (32 : UInt8) ∉ w) : spl (k + 1) (w ++ 32 :: r) = w :: spl k r := by
  rw [spl, index_app w r h, if_neg (by omega)]
  have e : ((w.length : Int)).toNat = w.length := by simp
  rw [e]
  have e1 : (w ++ 32 :: r).take w.length = w := by simp
  have e2 : (w ++ 32 :: r).drop (w.length + 1) = r := by
    rw [← List.drop_drop]; simp
  rw [e1, e2]
theorem spl_last (k : Nat) (w : List UInt8) (h : (32 : UInt8) ∉ w) : spl k w = [w] := by
  cases k with
  | zero => rfl
  | succ k => unfold spl; rw [if_pos (index_no w h)]

theorem index_nat (l : List UInt8) (h : indexByte l 32 ≠ -1) : ∃ i : Nat, indexByte l 32 = i ∧ i < l.length ∧ l[i]? = some 32 := by
  obtain ⟨i, hi⟩ : ∃ i : Nat, indexByte l 32 = i := ⟨(indexByte l 32).toNat, by have := indexByte_ge l 32; omega⟩
  have := (indexByte_some hi).1
  exact ⟨i, hi, by rw [List.getElem?_eq_some_iff] at this; exact this.1, this⟩
theorem join_cons2 (x y : List UInt8) (r : List (List UInt8)) : join (x :: y :: r) [32] = x ++ 32 :: join (y :: r) [32] := by
  rw [join_cons, join_cons]; simp [joinTail]
theorem spl_ne (k : Nat) (l : List UInt8) : spl k l ≠ [] := by
  cases k with
  | zero => simp [spl]
  | succ k => unfold spl; split <;> simp
theorem spl_join : ∀ (k : Nat) (l : List UInt8), join (spl k l) [32] = l
  | 0, l => by simp [spl, join_one]
  | k + 1, l => by
    unfold spl
    split
    · simp [join_one]
    · rename_i h
      obtain ⟨i, hi, hl, h32⟩ := index_nat l h
      rw [hi]
      have e : ((i : Int)).toNat = i := by simp
      rw [e]
      have ih := spl_join k (l.drop (i + 1))
      obtain ⟨y, r, hy⟩ : ∃ y r, spl k (l.drop (i + 1)) = y :: r := by
        cases hc : spl k (l.drop (i + 1)) with
        | nil => exact absurd hc (spl_ne _ _)
        | cons y r => exact ⟨y, r, rfl⟩
      rw [hy] at ih ⊢
      rw [join_cons2, ih]
      have h33 : l[i] = 32 := by rw [List.getElem?_eq_getElem hl] at h32; exact Option.some.inj h32
      calc l.take i ++ 32 :: l.drop (i + 1) = l.take i ++ l[i] :: l.drop (i + 1) := by rw [h33]
        _ = l.take i ++ l.drop i := by rw [List.getElem_cons_drop]
        _ = l := List.take_append_drop i l

theorem spl_eq : ∀ (k : Nat) (s : ByteArray), (splitB ⟨#[32]⟩ 0 k s).map (fun b => b.data.toList) = spl k s.data.toList
  | 0, s => rfl
  | k + 1, s => by
    have h1 : indexB s ⟨#[32]⟩ = indexByte s.data.toList 32 := one s ⟨#[32]⟩ rfl
    unfold spl
    split
    · rename_i h
      rw [splitB_miss _ _ _ _ (by rw [h1, h])]
      rfl
    · rename_i h
      obtain ⟨i, hi, hl, _⟩ := index_nat _ h
      rw [splitB_hit _ _ _ _ i (by rw [h1, hi]), List.map_cons, spl_eq k, hi]
      have e : ((i : Int)).toNat = i := by simp
      rw [e, extract_to_end, extract_data]
      rfl

/-! ### Figures -/
theorem dec_mem : ∀ (u : Nat) (b : UInt8), b ∈ decDigits u → 48 ≤ b.toNat ∧ b.toNat ≤ 57 := by
  intro u
  induction u using Nat.strongRecOn with
  | ind u ih =>
    intro b hb
    rw [decDigits] at hb
    split at hb
    · rw [List.mem_singleton] at hb; subst hb; rw [UInt8.toNat_ofNat']; omega
    · rcases List.mem_append.1 hb with h | h
      · exact ih (u / 10) (by omega) b h
      · rw [List.mem_singleton] at h; subst h; rw [UInt8.toNat_ofNat']; omega
theorem dec_blank (u : Nat) : (32 : UInt8) ∉ decDigits u := fun h => by
  have := dec_mem u 32 h; simp at this
theorem dec_ne (u : Nat) : decDigits u ≠ [] := by
  rw [decDigits]; split <;> simp
theorem decFrom_append : ∀ (l r : List UInt8) (acc n : Nat), decFrom acc l = some n → decFrom acc (l ++ r) = decFrom n r
  | [], r, acc, n, h => by simp only [decFrom, Option.some.injEq] at h; subst h; rfl
  | b :: l, r, acc, n, h => by
    simp only [List.cons_append, decFrom] at h ⊢
    cases hb : digitVal b with
    | none => simp [hb] at h
    | some d => simp only [hb] at h ⊢; exact decFrom_append l r _ n h
theorem digit_ofNat (d : Nat) (h : d < 10) : digitVal (UInt8.ofNat (48 + d)) = some d := by
  unfold digitVal
  rw [UInt8.toNat_ofNat', if_pos (by omega)]
  congr 1; omega
theorem dec_from (u : Nat) : decFrom 0 (decDigits u) = some u := by
  induction u using Nat.strongRecOn with
  | ind u ih =>
    rw [decDigits]
    split
    · rename_i h; simp only [decFrom, digit_ofNat u h]; simp
    · rename_i h
      rw [decFrom_append _ _ _ _ (ih (u / 10) (by omega))]
      simp only [decFrom, digit_ofNat (u % 10) (by omega)]
      congr 1; omega
theorem dec_len (u : Nat) (k : Nat) (h : u < 10 ^ (k + 1)) : (decDigits u).length ≤ k + 1 := by
  induction k generalizing u with
  | zero => rw [decDigits, dif_pos (by simpa using h)]; simp
  | succ k ih =>
    rw [decDigits]
    split
    · simp
    · have := ih (u / 10) (by rw [Nat.pow_succ] at h; omega)
      simp; omega
/-- No needless nought. -/
theorem dec_head (u : Nat) (h : 10 ≤ u) : ∃ b r, decDigits u = b :: r ∧ b ≠ 48 ∧ r ≠ [] := by
  induction u using Nat.strongRecOn with
  | ind u ih =>
    rw [decDigits, dif_neg (by omega)]
    by_cases h2 : u / 10 < 10
    · rw [decDigits, dif_pos h2]
      refine ⟨_, _, rfl, ?_, by simp⟩
      intro e
      have := congrArg UInt8.toNat e
      rw [UInt8.toNat_ofNat'] at this; simp at this; omega
    · obtain ⟨b, r, hb, hne, hr⟩ := ih (u / 10) (by omega) (by omega)
      exact ⟨b, r ++ [_], by rw [hb]; rfl, hne, by simp⟩

def fig (n : Int) : List UInt8 := decDigits n.toNat
theorem fig_blank (n : Int) : (32 : UInt8) ∉ fig n := dec_blank _
theorem itoa_fig (n : Int) (h : 0 ≤ n) : itoa n = fig n := by unfold itoa fig; rw [if_neg (by omega)]
theorem fig_len (n : Int) (h0 : 0 ≤ n) (h : n ≤ 1048576) : (fig n).length ≤ 7 := dec_len _ 6 (by simp; omega)
theorem atoi_fig (n : Int) (h0 : 0 ≤ n) (h : n ≤ 1048576) : atoiAll (fig n) = .ok n := by
  rw [atoiAll_short _ (by have := fig_len n h0 h; omega)]
  have hd := dec_from n.toNat
  unfold fig
  have hm := dec_mem n.toNat
  cases hc : decDigits n.toNat with
  | nil => exact absurd hc (dec_ne _)
  | cons b r =>
    rw [hc] at hd hm
    have hb := hm b (by simp)
    have n45 : ¬ (b == 45) = true := by intro e; rw [beq_iff_eq] at e; subst e; simp at hb
    have n43 : ¬ (b == 43) = true := by intro e; rw [beq_iff_eq] at e; subst e; simp at hb
    simp only [atoi]
    rw [if_neg n45, if_neg n43]
    simp only [decNat, List.isEmpty_cons, hd]
    simp [NumEnd.ofOption]; omega
end Go.Proofs.YtobndmolnliejaaDoor
