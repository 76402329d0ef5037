/- The document's numbers as bytes: in, One, Put, Nums. -/
import Derived.Test.YtmndjdaiailgmaaOctCmds
import Derived.Test.YtmndjdaiailgmaaMem
import Derived.Laws.OwnMore
namespace Go.Proofs.Ytmndjdaiailgmaa
set_option linter.unusedVariables false
open Go.RowKit
open Go.Lib (hid)

def in40 (x : Int) : Bool := decide (0 ≤ x ∧ x ≤ 1099511627776)
theorem in40_true {x : Int} : in40 x = true ↔ 0 ≤ x ∧ x ≤ 1099511627776 := by unfold in40; simp
theorem in40_false {x : Int} : in40 x = false ↔ ¬ (0 ≤ x ∧ x ≤ 1099511627776) := by unfold in40; simp
theorem rIn40 (x : Int) (w : World) : Calls Try.prog 76 #[.int .i64 x] w fun e w' => e = .returned (.bool (in40 x)) ∧ w = w' := by
  by_cases h0 : 0 ≤ x
  · go_enter Try.func76, Try.ntmps76
    go_wp2
    go_ret
    exact ⟨ret_bool (by unfold in40; symm; simp; omega), rfl⟩
  · go_enter Try.func76, Try.ntmps76
    go_wp2
    go_ret
    exact ⟨ret_bool (by unfold in40; symm; simp; omega), rfl⟩

/-- Bytes as the model has them. -/
def octs (l : List UInt8) : List Value := l.map fun b => .int .u8 b.toNat
theorem octs_len (l : List UInt8) : (octs l).length = l.length := by simp [octs]
theorem octs_append (a b : List UInt8) : octs (a ++ b) = octs a ++ octs b := by simp [octs]
theorem octs_cons (a : UInt8) (b : List UInt8) : octs (a :: b) = .int .u8 a.toNat :: octs b := by simp [octs]
theorem octs_one (l : List UInt8) : ∀ u ∈ octs l, u.oneCell' = true := by
  intro u hu; simp [octs] at hu; obtain ⟨b, _, rfl⟩ := hu; rfl
/-- A slice of bytes that the call itself made. -/
abbrev OwnB (w : World) (B : Nat) (v : Value) (l : List UInt8) : Prop := w.ownsRow B 5 1 v l.length (octs l)
theorem OwnB.nil (w : World) (B : Nat) : OwnB w B (.slice none 0 0) [] := World.ownsRow_nil _ _ _ _
theorem OwnB.shape {w : World} {B : Nat} {v : Value} {l : List UInt8} (h : OwnB w B v l) :
    (v = .slice none 0 0 ∧ l = []) ∨ ∃ g cap, v = .slice (some ⟨g, 0, none⟩) l.length cap ∧ B ≤ g ∧ g < w.heap.size ∧ ∀ (j : Nat) b, l[j]? = some b → w.cell? ⟨g, j, none⟩ = some (.int .u8 b.toNat) := by
  have hl := h.lt
  rcases h.2 with ⟨rfl, h0⟩ | ⟨g, cap, cur, rfl, hb, hg, hn, hm, hs, ht⟩
  · exact .inl ⟨rfl, List.length_eq_zero_iff.1 h0⟩
  · refine .inr ⟨g, cap, rfl, hb, (hl g rfl).2, fun j b hj => ?_⟩
    have hj' := (List.getElem?_eq_some_iff.1 hj).1
    rw [h.cellAt j (by omega)]
    simp [octs, hj]
theorem Try.infoB : (Try.prog.info? 5).map (fun i => (i.zero, i.size, i.bytes)) = some (some (.int .u8 0), 1, 1) := by kernel_rfl
theorem own_monoB {w : World} {B B' : Nat} {e : TypeId} {size : Nat} {v : Value} {n : Nat} {xs : List Value} (h : w.ownsRow B e size v n xs) (hB : B' ≤ B) : w.ownsRow B' e size v n xs := by
  refine ⟨h.1, ?_⟩
  rcases h.2 with h2 | ⟨g, cap, cur, rfl, hb, r⟩
  · exact .inl h2
  · exact .inr ⟨g, cap, cur, rfl, Nat.le_trans hB hb, r⟩
theorem OwnB.lit (w : World) (b : UInt8) : OwnB (w.alloc (.cells #[.int .u8 b.toNat] 5)) w.heap.size (.slice (some ⟨w.heap.size, 0, none⟩) 1 1) [b] :=
  ⟨rfl, .inr ⟨w.heap.size, 1, _, rfl, Nat.le_refl _, heap_alloc_new w _, Nat.le_refl _, by unfold maxLen; omega, rfl, rfl⟩⟩

theorem OwnB.below {w w' : World} {B C : Nat} {v : Value} {l : List UInt8} (h : OwnB w B v l) (hb : Below C w w') (hC : ∀ k, v.ownBlock = some k → k < C) : OwnB w' B v l := by
  refine ⟨h.1, ?_⟩
  rcases h.2 with h2 | ⟨g, cap, cur, rfl, h1, hg, r⟩
  · exact .inl h2
  · exact .inr ⟨g, cap, cur, rfl, h1, by rw [hb.block g (hC g rfl)]; exact hg, r⟩

set_option maxHeartbeats 1000000 in
set_option maxRecDepth 100000 in
theorem rOneN : ∀ (f n : Nat) (w : World), n < 128 ^ (f + 1) → n ≤ 1099511627776 → f < 9 → Calls Try.prog 55 #[.int .i64 n] w fun e w' => ∃ g cap, e = .returned (.slice (some ⟨g, 0, none⟩) (oneN n).length cap) ∧ OwnB w' w.heap.size (.slice (some ⟨g, 0, none⟩) (oneN n).length cap) (oneN n) ∧ Below w.heap.size w w'
  | f, n, w, h, hN, hf => by
    by_cases hn : n < 128
    · have HE := hid (oneN_small hn)
      have hl := hid (OwnB.lit w (UInt8.ofNat n))
      have hb : ((UInt8.ofNat n).toNat : Int) = n := by rw [toNat_small (by omega)]
      have hlt : (n : Int) < 128 := by omega
      go_enter Try.func55, Try.ntmps55
      go_wp2
      go_ret
      rw [HE.out]
      exact ⟨_, 1, rfl, by rw [← hb]; exact hl.out, (Below.refl _ _).alloc (Nat.le_refl _) _⟩
    · match f, h with
      | 0, h => omega
      | f + 1, h =>
        have HE := hid (oneN_big hn)
        obtain ⟨m, hm⟩ : ∃ m, m = n / 128 := ⟨_, rfl⟩
        obtain ⟨r, hr⟩ : ∃ r, r = n % 128 + 128 := ⟨_, rfl⟩
        have hmf : m < 128 ^ (f + 1) := by rw [Nat.pow_succ] at h; omega
        have hR := fun W => rOneN f m W hmf (by omega) (by omega)
        have hlen := oneN_len f m hmf
        have hl := hid (OwnB.lit w (UInt8.ofNat r))
        have hb : ((UInt8.ofNat r).toNat : Int) = r := by rw [toNat_small (by omega)]
        rw [hb] at hl
        have hq : (n : Int) / 128 = m := by omega
        have hq' : (n : Int) % 128 + 128 = r := by omega
        have hr256 : (r : Int) < 256 := by omega
        have HM := hid (And.intro hm hr)
        have hm62 : (m : Int) ≤ 1099511627776 := by omega
        obtain ⟨i0, hi, hz0, hz1, hz2⟩ := info_parts Try.infoB
        clear hm hr hmf h
        have hn' : ¬ (n : Int) < 128 := by omega
        go_enter Try.func55, Try.ntmps55
        go_wp2_with (first | (go_at_call 55; refine (hR _).mono ?_; rintro e w1 ⟨g, cap, rfl, hown, hB⟩; have hs1 := hB.size; have h0 := OwnB.below hl.out hB (fun k hk => by cases hk; simp); have HO := hid (And.intro hown (And.intro hB h0)); clear hown hB h0) | (at_builtin; refine wpList_append_own _ rfl _ _ 42 rfl w.heap.size 5 i0 _ 1 1 Try.underlying42 hi hz0 hz1 hz2 rfl (by decide) _ _ _ rfl HO.out.2.2 ⟨g, 0, none⟩ (oneN m).length cap (octs (oneN m)) rfl ?c0 ?c1 ?c2 ?c3 ?c4 ?c5 ?_))
        case c0 => rw [octs_len, Nat.mul_one]
        case c1 => exact HO.out.1.cells rfl
        case c2 => exact octs_one _
        case c3 => unfold maxLen; simp only [List.length_singleton]; omega
        case c4 => simp only [List.length_singleton]; omega
        case c5 => simp at hs1; omega
        intro v' w2 hown' hgrow _
        have e1 : oneN n = UInt8.ofNat r :: oneN m := by rw [HE.out, HM.out.1, HM.out.2]
        have hO : OwnB w2 w.heap.size v' (oneN n) := by
          rw [e1]; unfold OwnB
          rw [octs_cons, List.length_cons, Nat.add_comm]
          exact hown'
        have hBB : Below w.heap.size w w2 := (((Below.refl _ w).alloc (Nat.le_refl _) _).trans (HO.out.2.1.mono (by simp))).grown hgrow (by simp at hs1; omega) (fun k hk => by cases hk; exact Nat.le_refl _)
        rcases hO.shape with ⟨_, h'⟩ | ⟨g', cap', rfl, _⟩
        · exact absurd h' (oneN_ne n)
        have HF := hid (And.intro hO hBB)
        clear hown' hgrow hO hBB e1
        go_wp2
        go_ret
        exact ⟨_, _, rfl, HF.out.1, HF.out.2⟩
end Go.Proofs.Ytmndjdaiailgmaa
