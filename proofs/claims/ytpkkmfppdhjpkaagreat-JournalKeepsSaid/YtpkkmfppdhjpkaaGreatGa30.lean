import Derived.Test.YtpkkmfppdhjpkaaGreatGa28
/- The mathematics of the long division, bit by bit in a list: it leaves the sum. -/
namespace Go.Proofs.YtpkkmfppdhjpkaaGreat
set_option linter.unusedVariables false

/-- Of a number so many bits, the lowest first. -/
def bitsFrom : Nat → Nat → List Nat
  | 0, _ => []
  | k + 1, v => v % 2 :: bitsFrom k (v / 2)
/-- A list of bits as a number, the first the lowest. -/
def valN : List Nat → Nat
  | [] => 0
  | x :: l => x + 2 * valN l
def binL (l : List Nat) : Prop := ∀ x ∈ l, x < 2
theorem binL.at {l : List Nat} (h : binL l) {j x : Nat} (hx : l[j]? = some x) : x < 2 := h x (List.mem_of_getElem? hx)
theorem binL.append {a b : List Nat} (ha : binL a) (hb : binL b) : binL (a ++ b) := fun x hx => (List.mem_append.1 hx).elim (ha x) (hb x)
theorem binL.zeros (n : Nat) : binL (List.replicate n 0) := fun x hx => by rw [(List.mem_replicate.1 hx).2]; omega
theorem bits_bin : ∀ (k v : Nat), binL (bitsFrom k v)
  | 0, _, x, hx => by simp [bitsFrom] at hx
  | k + 1, v, x, hx => by
    rw [bitsFrom] at hx
    rcases List.mem_cons.1 hx with rfl | hx
    · omega
    · exact bits_bin k _ x hx
theorem bits_len : ∀ (k v : Nat), (bitsFrom k v).length = k
  | 0, _ => rfl
  | k + 1, v => by rw [bitsFrom, List.length_cons, bits_len]
theorem val_bits : ∀ (k v : Nat) (rest : List Nat), valN (bitsFrom k v ++ rest) = v % 2 ^ k + 2 ^ k * valN rest
  | 0, v, rest => by simp [bitsFrom, Nat.mod_one]
  | k + 1, v, rest => by
    rw [bitsFrom, List.cons_append, valN, val_bits k, Nat.pow_succ, Nat.mul_comm (2 ^ k) 2, Nat.mod_mul, Nat.mul_add, Nat.mul_assoc]
    omega
theorem val_zeros : ∀ n : Nat, valN (List.replicate n 0) = 0
  | 0 => rfl
  | n + 1 => by rw [List.replicate_succ, valN, val_zeros n]

/-- Bytes' bits. -/
def allBits (l : List UInt8) : List Nat := l.flatMap fun b => bitsFrom 8 b.toNat
theorem allBits_len : ∀ l : List UInt8, (allBits l).length = 8 * l.length
  | [] => rfl
  | b :: l => by
    have := allBits_len l
    unfold allBits at *
    rw [List.flatMap_cons, List.length_append, bits_len, this, List.length_cons]; omega
theorem allBits_bin : ∀ l : List UInt8, binL (allBits l)
  | [], x, hx => by simp [allBits] at hx
  | b :: l, x, hx => by
    have := allBits_bin l
    unfold allBits at *
    rw [List.flatMap_cons] at hx
    exact (List.mem_append.1 hx).elim (bits_bin 8 _ x) (this x)
theorem allBits_val : ∀ (l : List UInt8) (k : Nat), valN (allBits l ++ List.replicate k 0) = wholeN l
  | [], k => by simp [allBits, wholeN, val_zeros]
  | b :: l, k => by
    have := allBits_val l k
    unfold allBits at *
    have hb := b.toNat_lt
    rw [List.flatMap_cons, List.append_assoc, val_bits, this, wholeN, Nat.mod_eq_of_lt (by omega)]
theorem allBits_next {l : List UInt8} {k : Nat} {x : UInt8} (h : l[k]? = some x) : allBits (l.take (k + 1)) = allBits (l.take k) ++ bitsFrom 8 x.toNat := by
  unfold allBits; rw [takeN_snoc h, List.flatMap_append]; simp

/-! Two numbers, bit by bit. -/
theorem parity_xor {x y : Nat} (hx : x < 2) (hy : y < 2) (a b : Nat) : (x + 2 * a) ^^^ (y + 2 * b) = (x ^^^ y) + 2 * (a ^^^ b) := by
  have hd : ((x + 2 * a) ^^^ (y + 2 * b)) / 2 = a ^^^ b := by
    rw [xor_div2]; congr 1 <;> omega
  have hm : ((x + 2 * a) ^^^ (y + 2 * b)) % 2 = x ^^^ y := by
    have h := Nat.testBit_xor (x + 2 * a) (y + 2 * b) 0
    rw [Nat.testBit_zero, Nat.testBit_zero, Nat.testBit_zero] at h
    have e1 : (x + 2 * a) % 2 = x := by omega
    have e2 : (y + 2 * b) % 2 = y := by omega
    rw [e1, e2] at h
    obtain ⟨z, hz⟩ : ∃ z, z = ((x + 2 * a) ^^^ (y + 2 * b)) := ⟨_, rfl⟩
    rw [← hz] at h ⊢
    clear hz hd e1 e2
    have h3 : decide (z % 2 = 1) = (decide (x = 1) ^^ decide (y = 1)) := h
    obtain rfl | rfl : x = 0 ∨ x = 1 := by omega
    all_goals obtain rfl | rfl : y = 0 ∨ y = 1 := by omega
    · have h4 : ¬ z % 2 = 1 := of_decide_eq_false h3
      show z % 2 = 0; omega
    · have h4 : z % 2 = 1 := of_decide_eq_true h3
      exact h4
    · have h4 : z % 2 = 1 := of_decide_eq_true h3
      exact h4
    · have h4 : ¬ z % 2 = 1 := of_decide_eq_false h3
      show z % 2 = 0; omega
  omega
/-- The first ones turned. -/
def turnL (k : Nat) (l : List Nat) : List Nat := (l.take k).map (1 - ·) ++ l.drop k
theorem turn_val : ∀ (k : Nat) (l : List Nat), binL l → k ≤ l.length → valN (turnL k l) = valN l ^^^ (2 ^ k - 1)
  | 0, l, _, _ => by simp [turnL]
  | k + 1, [], _, h => by simp at h
  | k + 1, x :: l, hb, h => by
    have ih := turn_val k l (fun y hy => hb y (List.mem_cons_of_mem _ hy)) (by simpa using h)
    have hx : x < 2 := hb x (List.mem_cons_self ..)
    unfold turnL at *
    rw [List.take_succ_cons, List.map_cons, List.drop_succ_cons, List.cons_append, valN, ih, valN]
    have e : 2 ^ (k + 1) - 1 = 1 + 2 * (2 ^ k - 1) := by have := Nat.two_pow_pos k; rw [Nat.pow_succ]; omega
    rw [e, parity_xor hx (by omega)]
    congr 1
    obtain rfl | rfl : x = 0 ∨ x = 1 := by omega
    all_goals rfl
theorem turn_len (k : Nat) (l : List Nat) : (turnL k l).length = l.length := by
  unfold turnL; rw [List.length_append, List.length_map, List.length_take, List.length_drop]; omega
theorem turn_bin {k : Nat} {l : List Nat} (h : binL l) : binL (turnL k l) := by
  intro x hx
  rcases List.mem_append.1 hx with hx | hx
  · obtain ⟨y, _, rfl⟩ := List.mem_map.1 hx; omega
  · exact h x (List.mem_of_mem_drop hx)
theorem turn_at {k : Nat} {l : List Nat} {x : Nat} (h : l[k]? = some x) : (turnL k l)[k]? = some x ∧ (turnL k l).set k (1 - x) = turnL (k + 1) l := by
  have hk := (List.getElem?_eq_some_iff.1 h).1
  have hl : ((l.take k).map (1 - ·)).length = k := by rw [List.length_map, List.length_take]; omega
  have hd : l.drop k = x :: l.drop (k + 1) := by obtain ⟨hh, rfl⟩ := List.getElem?_eq_some_iff.1 h; exact List.drop_eq_getElem_cons hh
  unfold turnL
  constructor
  · rw [List.getElem?_append_right (by omega), hl, Nat.sub_self, hd]; rfl
  · rw [List.set_append_right _ _ (by omega), hl, Nat.sub_self, hd, List.set_cons_zero, takeN_snoc h, List.map_append, List.append_assoc]; rfl
/-- One turned. -/
theorem one_val : ∀ (j : Nat) (l : List Nat) (x : Nat), binL l → l[j]? = some x → valN (l.set j (1 - x)) = valN l ^^^ 2 ^ j
  | _, [], x, _, h => by simp at h
  | 0, y :: l, x, hb, h => by
    simp at h; subst h
    have hy : y < 2 := hb y (List.mem_cons_self ..)
    rw [List.set_cons_zero, valN, valN]
    have := parity_xor hy (show 1 < 2 by omega) (valN l) 0
    rw [Nat.mul_zero, Nat.add_zero, Nat.xor_zero] at this
    rw [Nat.pow_zero, this]
    congr 1
    obtain rfl | rfl : y = 0 ∨ y = 1 := by omega
    all_goals rfl
  | j + 1, y :: l, x, hb, h => by
    have hy : y < 2 := hb y (List.mem_cons_self ..)
    have ih := one_val j l x (fun z hz => hb z (List.mem_cons_of_mem _ hz)) (by simpa using h)
    rw [List.set_cons_succ, valN, valN, ih]
    have := parity_xor hy (show 0 < 2 by omega) (valN l) (2 ^ j)
    rw [Nat.zero_add, Nat.xor_zero] at this
    rw [Nat.pow_succ, Nat.mul_comm (2 ^ j) 2, this]
theorem set_bin {l : List Nat} (h : binL l) {j x : Nat} (hx : x < 2) : binL (l.set j x) := fun y hy => by
  rcases List.mem_or_eq_of_mem_set hy with hy | rfl
  · exact h y hy
  · exact hx

/-! The division. -/
def powersL : List Nat := [26, 23, 22, 16, 12, 11, 10, 8, 7, 5, 4, 2, 1, 0]
/-- What is behind the factor that goes, when it goes: of these powers the factors are turned. -/
def flipL : List Nat → List Nat → List Nat
  | [], l => l
  | p :: ps, l => flipL ps (l.set (31 - p) (1 - l.getD (31 - p) 0))
theorem flip_snoc : ∀ (ps : List Nat) (p : Nat) (l : List Nat), flipL (ps ++ [p]) l = (flipL ps l).set (31 - p) (1 - (flipL ps l).getD (31 - p) 0)
  | [], p, l => rfl
  | q :: ps, p, l => by rw [List.cons_append, flipL, flip_snoc ps p, flipL]
theorem flip_len : ∀ (ps : List Nat) (l : List Nat), (flipL ps l).length = l.length
  | [], l => rfl
  | q :: ps, l => by rw [flipL, flip_len, List.length_set]
theorem flip_bin : ∀ (ps : List Nat) (l : List Nat), binL l → binL (flipL ps l)
  | [], l, h => h
  | q :: ps, l, h => by rw [flipL]; exact flip_bin ps _ (set_bin h (by omega))
theorem flip_val : ∀ (ps : List Nat) (l : List Nat), binL l → 32 ≤ l.length → valN (flipL ps l) = ps.foldl (fun a p => a ^^^ 2 ^ (31 - p)) (valN l)
  | [], l, _, _ => rfl
  | q :: ps, l, h, hl => by
    have hx : l[31 - q]? = some (l[31 - q]'(by omega)) := List.getElem?_eq_getElem (by omega)
    rw [flipL, flip_val ps _ (set_bin h (by omega)) (by rw [List.length_set]; exact hl), List.foldl_cons]
    rw [List.getD_eq_getElem?_getD, hx, Option.getD_some, one_val _ l _ h hx]
/-- One factor less. -/
def lessL : List Nat → List Nat
  | [] => []
  | x :: l => if x = 0 then l else flipL powersL l
theorem foldx (v : Nat) : powersL.foldl (fun a p => a ^^^ 2 ^ (31 - p)) v = v ^^^ 3988292384 := by
  simp only [powersL, List.foldl_cons, List.foldl_nil, Nat.xor_assoc]
  congr 1
theorem less_val {x : Nat} {l : List Nat} (h : binL (x :: l)) (hl : 32 ≤ l.length) : valN (lessL (x :: l)) = sN (valN (x :: l)) := by
  have hx : x < 2 := h x (List.mem_cons_self ..)
  have hb : binL l := fun y hy => h y (List.mem_cons_of_mem _ hy)
  obtain rfl | rfl : x = 0 ∨ x = 1 := by omega
  · show valN l = sN (0 + 2 * valN l)
    unfold sN
    rw [if_neg (by omega)]; omega
  · show valN (flipL powersL l) = sN (1 + 2 * valN l)
    unfold sN
    rw [if_pos (by omega), flip_val _ _ hb hl, foldx]
    congr 1; omega
theorem less_go {x : Nat} {l : List Nat} (h : x ≠ 0) : lessL (x :: l) = flipL powersL l := by
  show (if x = 0 then l else flipL powersL l) = _
  rw [if_neg h]
theorem less_bin {l : List Nat} (h : binL l) : binL (lessL l) := by
  cases l with
  | nil => exact h
  | cons x l =>
    have hb : binL l := fun y hy => h y (List.mem_cons_of_mem _ hy)
    by_cases hx : x = 0
    · subst hx; exact hb
    · rw [less_go hx]; exact flip_bin _ _ hb
theorem less_len (l : List Nat) : (lessL l).length = l.length - 1 := by
  cases l with
  | nil => rfl
  | cons x l =>
    by_cases hx : x = 0
    · subst hx; show l.length = _; simp
    · rw [less_go hx, flip_len]; simp
/-- So many less. -/
def lessN : Nat → List Nat → List Nat
  | 0, l => l
  | k + 1, l => lessL (lessN k l)
theorem lessN_len : ∀ (k : Nat) (l : List Nat), (lessN k l).length = l.length - k
  | 0, l => rfl
  | k + 1, l => by rw [lessN, less_len, lessN_len]; omega
theorem lessN_bin : ∀ (k : Nat) {l : List Nat}, binL l → binL (lessN k l)
  | 0, l, h => h
  | k + 1, l, h => less_bin (lessN_bin k h)
theorem lessN_val : ∀ (k : Nat) (l : List Nat), binL l → k + 32 ≤ l.length → valN (lessN k l) = sNs k (valN l)
  | 0, l, _, _ => rfl
  | k + 1, l, h, hl => by
    rw [lessN, sNs_succ, ← lessN_val k l h (by omega)]
    have hn := lessN_len k l
    have hb := lessN_bin k h
    obtain ⟨x, r, hr⟩ : ∃ x r, lessN k l = x :: r := by
      cases hc : lessN k l with
      | nil => rw [hc] at hn; simp at hn; omega
      | cons x r => exact ⟨x, r, rfl⟩
    rw [hr] at hn hb ⊢
    exact less_val hb (by simp at hn; omega)
/-- What the division works on. -/
def factorsL (l : List UInt8) : List Nat := turnL 32 (allBits l ++ List.replicate 32 0)
theorem factors_len (l : List UInt8) : (factorsL l).length = 8 * l.length + 32 := by
  unfold factorsL; rw [turn_len, List.length_append, allBits_len, List.length_replicate]
theorem factors_bin (l : List UInt8) : binL (factorsL l) := turn_bin ((allBits_bin l).append (binL.zeros _))
theorem factors_val (l : List UInt8) : valN (factorsL l) = 4294967295 ^^^ wholeN l := by
  unfold factorsL
  rw [turn_val 32 _ ((allBits_bin l).append (binL.zeros _)) (by rw [List.length_append, List.length_replicate]; omega), allBits_val, Nat.xor_comm]
theorem left_val (l : List UInt8) : valN (lessN (8 * l.length) (factorsL l)) = foldN l := by
  rw [lessN_val _ _ (factors_bin l) (by rw [factors_len]; omega), factors_val, sNs_whole]; rfl
theorem left_len (l : List UInt8) : (lessN (8 * l.length) (factorsL l)).length = 32 := by
  rw [lessN_len, factors_len]; omega
theorem rest_val : ∀ (l : List Nat), binL l → valN (l.map (1 - ·)) + valN l = 2 ^ l.length - 1
  | [], _ => rfl
  | x :: l, h => by
    have hx : x < 2 := h x (List.mem_cons_self ..)
    have ih := rest_val l (fun y hy => h y (List.mem_cons_of_mem _ hy))
    rw [List.map_cons, valN, valN, List.length_cons, Nat.pow_succ]
    have := Nat.two_pow_pos l.length
    omega
theorem sum_val (l : List UInt8) : valN ((lessN (8 * l.length) (factorsL l)).map (1 - ·)) = sumN l := by
  have h := rest_val _ (lessN_bin (8 * l.length) (factors_bin l))
  rw [left_len, left_val] at h
  unfold sumN
  have : (2 : Nat) ^ 32 - 1 = 4294967295 := by decide
  omega
end Go.Proofs.YtpkkmfppdhjpkaaGreat
/- The document's factors: bytes' bits, the first 32 turned. -/
namespace Go.Proofs.YtpkkmfppdhjpkaaGreat
set_option linter.unusedVariables false
open Go.RowKit
open Go.Lib (hid)

abbrev castL (l : List Nat) : List Int := l.map fun x : Nat => (x : Int)
theorem cast_append (a b : List Nat) : castL (a ++ b) = castL a ++ castL b := by simp [castL]
/-- A slice of numbers that the call itself made. -/
abbrev OwnF (w : World) (B : Nat) (v : Value) (l : List Nat) : Prop := w.ownsRow B 3 1 v l.length (ints (castL l))
theorem OwnF.nil (w : World) (B : Nat) : OwnF w B (.slice none 0 0) [] := World.ownsRow_nil _ _ _ _
theorem new_int {W : World} {x : Value} {T : TypeId} {g : Nat} (hg : g = W.heap.size) : ∀ (j : Nat) u, [x][j]? = some u → (W.alloc (.cells #[x] T)).cell? ((⟨g, 0, none⟩ : Addr).add j) = some u := new_one hg
theorem own_oneF {w W0 w1 : World} {B : Nat} {v v' : Value} {l : List Nat} {r : Nat} (hB : Below B w W0) (hsz : B ≤ W0.heap.size) (hlt : ∀ k, v.ownBlock = some k → B ≤ k)
    (hown' : w1.ownsRow B 3 1 v' (l.length + 1) (ints (castL l) ++ [.int .i64 r])) (hg : W0.grownBy w1 v.ownBlock) : OwnF w1 B v' (l ++ [r]) ∧ Below B w w1 := by
  refine ⟨?_, hB.grown hg hsz hlt⟩
  unfold OwnF
  rw [cast_append, ints_append, List.length_append]
  exact hown'
theorem OwnF.asSlice {w : World} {B : Nat} {v : Value} {l : List Nat} (h : OwnF w B v l) : ∃ (g : Option Addr) (cap n : Nat), v = .slice g n cap ∧ n = l.length := by
  rcases h.2 with ⟨e, e'⟩ | ⟨g, cap, cur, e, _⟩
  · exact ⟨none, 0, 0, e, e'.symm⟩
  · exact ⟨_, cap, _, e, rfl⟩
theorem OwnF.some {w : World} {B : Nat} {v : Value} {l : List Nat} (h : OwnF w B v l) (hl : 0 < l.length) : ∃ (g cap : Nat), v = .slice (Option.some ⟨g, 0, none⟩) l.length cap ∧ B ≤ g ∧ g < w.heap.size := by
  have hlt := h.lt
  rcases h.2 with ⟨e, e'⟩ | ⟨g, cap, cur, rfl, hb, _⟩
  · omega
  · exact ⟨g, cap, rfl, hb, (hlt g rfl).2⟩
theorem OwnF.at {w : World} {B g n cap : Nat} {l : List Nat} (h : w.ownsRow B 3 1 (.slice (Option.some ⟨g, 0, none⟩) n cap) n (ints (castL l))) {j x : Nat} (hn : n = l.length) (hx : l[j]? = Option.some x) : w.cell? ⟨g, j, none⟩ = Option.some (.int .i64 x) := by
  have hj := (List.getElem?_eq_some_iff.1 hx).1
  rw [h.cellAt j (by omega)]
  simp [ints, castL, hx]
theorem OwnF.put {w : World} {B g n cap : Nat} {l : List Nat} (h : w.ownsRow B 3 1 (.slice (Option.some ⟨g, 0, none⟩) n cap) n (ints (castL l))) (j x : Nat) : (w.setCell ⟨g, j, none⟩ (.int .i64 x)).ownsRow B 3 1 (.slice (Option.some ⟨g, 0, none⟩) n cap) n (ints (castL (l.set j x))) ∧ w.grownBy (w.setCell ⟨g, j, none⟩ (.int .i64 x)) (Option.some g) := by
  have := h.stored j (.int .i64 x)
  unfold ints castL at *
  rw [List.map_set, List.map_set]
  exact this

end Go.Proofs.YtpkkmfppdhjpkaaGreat
/- The document's sum: the long division. -/
namespace Go.Proofs.YtpkkmfppdhjpkaaGreat
set_option linter.unusedVariables false
open Go.RowKit
open Go.Lib (hid)

abbrev powersV : Array Value := #[.int .i64 26, .int .i64 23, .int .i64 22, .int .i64 16, .int .i64 12, .int .i64 11, .int .i64 10, .int .i64 8, .int .i64 7, .int .i64 5, .int .i64 4, .int .i64 2, .int .i64 1, .int .i64 0]
theorem powersV_eq : powersV = (powersL.map fun p : Nat => Value.int .i64 p).toArray := rfl
theorem powers_at {w : World} {q m : Nat} (h : w.heap[q]? = some (.cells powersV 3)) (hm : m < 14) : ∃ p, powersL[m]? = some p ∧ p < 27 ∧ w.cell? ⟨q, m, none⟩ = some (.int .i64 p) := by
  have hlen : powersL.length = 14 := rfl
  have hx : powersL[m]? = some (powersL[m]'(by omega)) := List.getElem?_eq_getElem (by omega)
  refine ⟨_, hx, ?_, ?_⟩
  · have hall : ∀ p ∈ powersL, p < 27 := by decide
    exact hall _ (List.mem_of_getElem? hx)
  · rw [cellAt' h m, powersV_eq, List.getElem?_toArray, List.getElem?_map, hx]; rfl

/-- The division under way. -/
theorem under_at {F r : List Nat} {k x : Nat} (h : F = x :: r) : (List.replicate k 0 ++ F)[k]? = some x ∧ (List.replicate k 0 ++ F).set k 0 = List.replicate (k + 1) 0 ++ r := by
  subst h
  constructor
  · rw [List.getElem?_append_right (by simp)]; simp
  · rw [List.set_append_right _ _ (by simp), List.length_replicate, Nat.sub_self, List.set_cons_zero, List.replicate_succ', List.append_assoc]; rfl
theorem inner_at {ps r : List Nat} {k p x : Nat} (hp : p < 27) (hr : 32 ≤ r.length) (hx : (flipL ps r)[31 - p]? = some x) : (List.replicate (k + 1) 0 ++ flipL ps r)[k + 32 - p]? = some x ∧ (List.replicate (k + 1) 0 ++ flipL ps r).set (k + 32 - p) (1 - x) = List.replicate (k + 1) 0 ++ flipL (ps ++ [p]) r := by
  have e : k + 32 - p = (k + 1) + (31 - p) := by omega
  constructor
  · rw [e, List.getElem?_append_right (by simp), List.length_replicate, Nat.add_sub_cancel_left]; exact hx
  · rw [e, List.set_append_right _ _ (by simp), List.length_replicate, Nat.add_sub_cancel_left, flip_snoc, List.getD_eq_getElem?_getD, hx]; rfl
theorem drop_at' {l : List Nat} {k : Nat} {x : Nat} (h : l[k]? = some x) : l.drop k = x :: l.drop (k + 1) := by
  obtain ⟨hlt, rfl⟩ := List.getElem?_eq_some_iff.1 h
  exact List.drop_eq_getElem_cons hlt
theorem kept_g {w w' : World} {g q : Nat} {o : Obj} (h : w.heap[q]? = some o) (hg : w.grownBy w' (some g)) (hne : q ≠ g) : w'.heap[q]? = some o := by
  rw [hg.block q (Array.getElem?_eq_some_iff.1 h).1 (fun e => hne (by cases e; rfl))]; exact h

end Go.Proofs.YtpkkmfppdhjpkaaGreat
