/- The document's Figures: a number's figures. -/
import Derived.Test.YtobndmolnliejaaDoorCmdWorld
import Derived.Laws.BytesArg
import Derived.Outline
namespace Go.Proofs.YtobndmolnliejaaDoor
open Go.RowKit Go.Lib

theorem ofNat_48 (d : Nat) : UInt8.ofNat (48 + d) = 48 + UInt8.ofNat d := by simp
theorem one_byte_str (d : Nat) (h : d < 10) : strOfNums [48 + (d : Int)] = ⟨#[UInt8.ofNat (48 + d)]⟩ := by
  unfold strOfNums
  have e : (48 + (d : Int)).toNat = 48 + d := by omega
  rw [List.map_cons, List.map_nil, e]
theorem dec_small {n : Nat} (h : n < 10) : decDigits n = [48 + UInt8.ofNat (n % 10)] := by
  rw [decDigits, dif_pos h, ofNat_48, Nat.mod_eq_of_lt h]
theorem dec_big {n : Nat} (h : ¬ n < 10) : decDigits n = decDigits (n / 10) ++ [48 + UInt8.ofNat (n % 10)] := by
  rw [decDigits, dif_neg h, ofNat_48]
theorem str_add (a b : List UInt8) : Value.string ((⟨a.toArray⟩ : ByteArray) ++ ⟨b.toArray⟩) = str (a ++ b) := by
  show Value.string _ = Value.string _
  congr 1

set_option maxRecDepth 100000 in
theorem rFig (n : Nat) : n < 9223372036854775808 → ∀ (w : World), Calls Tryd.prog 26 #[.int .i64 n] w fun e w' => e = .returned (str (decDigits n)) ∧ Below w.heap.size w w' := by
  induction n using Nat.strongRecOn with
  | ind n ih =>
    intro hn w
    have hd : n % 10 < 10 := Nat.mod_lt _ (by omega)
    have conv := run_convert_bytes_arg (P := Tryd.prog) (w.alloc (.cells #[.int .u8 (48 + (n : Int) % 10)] 5)) 66 5 Tryd.underlying66 Tryd.underlying5 w.heap.size 0 1 1 [48 + (n : Int) % 10] rfl (by
      intro i hi
      obtain rfl : i = 0 := by omega
      rw [Nat.add_zero, World.cell?_alloc_new]; rfl) 9 Tryd.underlying9
    have e1 : strOfNums [48 + (n : Int) % 10] = ⟨#[UInt8.ofNat (48 + n % 10)]⟩ := by
      have := one_byte_str (n % 10) hd
      rw [← this]; simp
    rw [e1] at conv
    clear e1 hd
    by_cases h : n < 10
    · clear ih
      go_enter Tryd.func26, Tryd.ntmps26
      go_wp2
      go_ret
      exact ⟨by rw [dec_small h]; rfl, (Below.refl _ _).alloc (Nat.le_refl _) _⟩
    · have hl := dec_len (n / 10) 18 (by simp; omega)
      have ih' := ih (n / 10) (by omega) (by omega)
      clear ih
      have h' : 10 ≤ n := by omega
      go_enter Tryd.func26, Tryd.ntmps26
      go_wp2_with (go_at_call 26; refine (ih' _).mono ?_; rintro e w1 ⟨rfl, hb⟩)
      go_ret
      exact ⟨by rw [dec_big h, ← str_add]; rfl, ((Below.refl _ _).alloc (Nat.le_refl _) _).trans (hb.mono (by simp))⟩
end Go.Proofs.YtobndmolnliejaaDoor
