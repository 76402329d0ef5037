/- The contract of partsOf: what commands of a kind have; the world has new blocks at most. -/
import Derived.Test.YtdgllpfccdbdnaaInts
namespace Go.Proofs.Ytdgllpfccdbdnaa
open Go.RowKit

abbrev partsV (a b c d ok : Bool) : Value := .tuple #[.agg #[.bool a, .bool b, .bool c, .bool d], .bool ok]
theorem bcellC {B : Nat} {W w1 : World} (hb : Below B W w1) : (∀ b o, b < B → w1.cell? ⟨b, o, none⟩ = W.cell? ⟨b, o, none⟩) ∧ (∀ b o, b < B → w1.frozen? ⟨b, o, none⟩ = W.frozen? ⟨b, o, none⟩) :=
  ⟨fun b o h => hb.cell (p := ⟨b, o, none⟩) h, fun b o h => hb.frozen (p := ⟨b, o, none⟩) h⟩
theorem below_two (w : World) (o p : Obj) : Below w.heap.size w ((w.alloc o).alloc p) := ((Below.refl _ _).alloc (Nat.le_refl _) _).alloc (by simp) _

theorem cParts0 (w : World) : Calls Try.prog 45 #[.int .i64 0] w fun e w' => e = .returned (partsV false true true true true) ∧ Below w.heap.size w w' := by
  go_enter Try.func45, Try.ntmps45
  go_wp2
  exact bodyPost_ret (v := partsV false true true true true) (by simp [results, Try.results45, go_sem]) rfl ⟨rfl, below_two _ _ _⟩
theorem cParts1 (w : World) : Calls Try.prog 45 #[.int .i64 1] w fun e w' => e = .returned (partsV true false false false true) ∧ Below w.heap.size w w' := by
  go_enter Try.func45, Try.ntmps45
  go_wp2
  exact bodyPost_ret (v := partsV true false false false true) (by simp [results, Try.results45, go_sem]) rfl ⟨rfl, below_two _ _ _⟩
theorem cParts2 (w : World) : Calls Try.prog 45 #[.int .i64 2] w fun e w' => e = .returned (partsV true false false true true) ∧ Below w.heap.size w w' := by
  go_enter Try.func45, Try.ntmps45
  go_wp2
  exact bodyPost_ret (v := partsV true false false true true) (by simp [results, Try.results45, go_sem]) rfl ⟨rfl, below_two _ _ _⟩
theorem cParts_no (k : Int) (h0 : k ≠ 0) (h1 : k ≠ 1) (h2 : k ≠ 2) (w : World) : Calls Try.prog 45 #[.int .i64 k] w fun e w' => e = .returned (partsV false false false false false) ∧ Below w.heap.size w w' := by
  go_enter Try.func45, Try.ntmps45
  go_wp2
  exact bodyPost_ret (v := partsV false false false false false) (by simp [results, Try.results45, go_sem]) rfl ⟨rfl, below_two _ _ _⟩
end Go.Proofs.Ytdgllpfccdbdnaa
