/- The program's book: Clone. -/
import Derived.Test.YtdgllpfccdbdnaaKOps
namespace Go.Proofs.Ytdgllpfccdbdnaa
set_option linter.unusedVariables false
open Go.RowKit
open Go.Lib (hid)

theorem row_new {w w' : World} {B : Nat} {v r : Value} {l : List Od} (h : OwnO w' w.heap.size r l) (hb : Below w.heap.size w w') (hB : B ≤ w.heap.size) : RowTo w w' B v r l :=
  ⟨h.mono hB, Tch.ofBelow hb, fun k hk => .inr (h.lt k hk).1⟩
/-- A book on the way to being a copy. -/
def Cp (w wr : World) (k : Nat) (bs ss : List Od) : Prop := ∃ v0 v1, BkA wr w.heap.size w.heap.size v0 v1 (if k = 0 then [] else bs) (if k = 2 then ss else []) ∧ Below w.heap.size w wr

set_option maxHeartbeats 3200000 in
set_option maxRecDepth 100000 in
theorem cBClone {w : World} {B p : Nat} {va vb : Value} {bs ss : List Od} (h : BkA w B p va vb bs ss) (hl : bs.length ≤ 1000 ∧ ss.length ≤ 1000) :
    Calls Try.prog 31 #[ptr p] w fun e w' => e = .returned (ptr w.heap.size) ∧ (∃ va' vb', BkA w' w.heap.size w.heap.size va' vb' bs ss) ∧ Below w.heap.size w w' := by
  obtain ⟨hlt, c0, c1, _, _⟩ := h.bk.cells
  have HC0 : Hid (∀ W, Below w.heap.size w W → Calls Try.prog 44 #[va] W fun e w' => ∃ r, e = .returned r ∧ OwnO w' W.heap.size r bs ∧ Below W.heap.size W w') := hid fun W hW => cCloneO (h.ra.on hW) (by omega)
  have HC1 : Hid (∀ W, Below w.heap.size w W → Calls Try.prog 44 #[vb] W fun e w' => ∃ r, e = .returned r ∧ OwnO w' W.heap.size r ss ∧ Below W.heap.size W w') := hid fun W hW => cCloneO (h.rb.on hW) (by omega)
  obtain ⟨ga, na, ca, rfl, hna⟩ := h.ra.asSlice
  obtain ⟨gb, nb, cb, rfl, hnb⟩ := h.rb.asSlice
  have ix0 : ∀ W, (Instr.index 79 (.agg #[.slice ga ca na, .slice gb cb nb]) (.int .i64 0)).run Try.prog W = .ok (.slice ga ca na) W := fun W => by first | kernel_rfl | rfl
  have ix1 : ∀ W, (Instr.index 79 (.agg #[.slice ga ca na, .slice gb cb nb]) (.int .i64 1)).run Try.prog W = .ok (.slice gb cb nb) W := fun W => by first | kernel_rfl | rfl
  clear h hna hnb
  go_enter Try.func31, Try.ntmps31
  go_wp2_with fail
  go_at_call 16
  refine (cNew w).mono ?_
  rintro e w1 ⟨rfl, hK, hB⟩
  have d0 := (hB.cell (p := ⟨p, 0, none⟩) hlt).trans c0
  have d1 := (hB.cell (p := ⟨p, 1, none⟩) hlt).trans c1
  have HK : Hid (Cp w w1 0 bs ss) := hid ⟨_, _, hK, hB⟩
  clear hK hB c0 c1
  go_wp2_with fail
  clear d0 d1
  go_loopg [4, 5, 13] 2 (fun gg s4 s5 s13 wr => ∃ k : Nat, k ≤ 2 ∧ 2 - k ≤ gg ∧ s13 = .int .i64 k ∧ Hid (Cp w wr k bs ss))
  case atStart => exact ⟨0, by omega, by omega, rfl, HK⟩
  case round =>
    obtain ⟨k, hk, hg, rfl, HI⟩ := hrel
    clear HK
    obtain rfl | rfl | rfl : k = 0 ∨ k = 1 ∨ k = 2 := by omega
    · obtain ⟨v0, v1, hK, hB⟩ := HI.out
      obtain ⟨hz, e0, e1, f0, f1⟩ := hK.bk.cells
      have HK2 := hid hK
      have HB2 := hid hB
      clear hK hB HI
      go_wp2_with fail
      go_region_law (first
        | (go_simp; go_at_call 44; (
            refine (HC0.out _ HB2.out.drew).mono ?_
            rintro e w2 ⟨r, rfl, hO, hB3⟩
            obtain ⟨a2, c2, n2, rfl, hn2⟩ := hO.asSlice
            have hx := bk_put0 HK2.out (belowDrew (Below.refl _ wr)) (row_new (v := v0) hO hB3 (HB2.out.size : w.heap.size ≤ wr.drew.heap.size))
            obtain ⟨x0, x1, hA, _⟩ := hx.2
            have HX : Hid (Cp w (w2.setCell ⟨w.heap.size, 0, none⟩ (.slice a2 n2 c2)) 1 bs ss) := hid ⟨x0, x1, hA, (HB2.out.drew.trans (hB3.mono HB2.out.size)).setCell (Nat.le_refl _) _⟩
            obtain ⟨hz2, g0, g1, q0, q1⟩ := hx.1.cells
            clear hA
            clear hx hO hB3 hn2)))
      all_goals (
        go_wp2_with fail
        go_roundg 1
        case measure => omega
        case rel => exact ⟨1, by omega, by omega, by go_num, HX⟩)
    · obtain ⟨v0, v1, hK, hB⟩ := HI.out
      obtain ⟨hz, e0, e1, f0, f1⟩ := hK.bk.cells
      have HK2 := hid hK
      have HB2 := hid hB
      clear hK hB HI
      go_wp2_with fail
      go_region_law (first
        | (go_simp; go_at_call 44; (
            refine (HC1.out _ HB2.out.drew).mono ?_
            rintro e w2 ⟨r, rfl, hO, hB3⟩
            obtain ⟨a2, c2, n2, rfl, hn2⟩ := hO.asSlice
            have hx := bk_put1 HK2.out (belowDrew (Below.refl _ wr)) (row_new (v := v1) hO hB3 (HB2.out.size : w.heap.size ≤ wr.drew.heap.size))
            obtain ⟨x0, x1, hA, _⟩ := hx.2
            have HX : Hid (Cp w (w2.setCell ⟨w.heap.size, 1, none⟩ (.slice a2 n2 c2)) 2 bs ss) := hid ⟨x0, x1, hA, (HB2.out.drew.trans (hB3.mono HB2.out.size)).setCell (Nat.le_refl _) _⟩
            obtain ⟨hz2, g0, g1, q0, q1⟩ := hx.1.cells
            clear hA
            clear hx hO hB3 hn2)))
      all_goals (
        go_wp2_with fail
        go_roundg 0
        case measure => omega
        case rel => exact ⟨2, by omega, by omega, by go_num, HX⟩)
    · obtain ⟨v0, v1, hK, hB⟩ := HI.out
      have HX := hid (And.intro (show ∃ va' vb', BkA wr w.heap.size w.heap.size va' vb' bs ss from ⟨v0, v1, hK⟩) hB)
      clear hK hB HI
      go_wp2_with fail
      go_ret
      exact ⟨rfl, HX.out.1, HX.out.2⟩
end Go.Proofs.Ytdgllpfccdbdnaa
