/- The program's book: New, many, Orders, Find. -/
import Derived.Test.YtdgllpfccdbdnaaBBook
namespace Go.Proofs.Ytdgllpfccdbdnaa
set_option linter.unusedVariables false
open Go.RowKit
open Go.Lib (hid)

set_option maxRecDepth 100000 in
theorem cNew (w : World) : Calls Try.prog 16 #[] w fun e w' => e = .returned (ptr w.heap.size) ∧ BkA w' w.heap.size w.heap.size (.slice none 0 0) (.slice none 0 0) [] [] ∧ Below w.heap.size w w' := by
  go_enter Try.func16, Try.ntmps16
  go_wp2
  go_ret
  exact ⟨rfl, ⟨heap_alloc_new w _, World.ownsRow_nil _ _ _ _, World.ownsRow_nil _ _ _ _, (fun k hk => by cases hk), Nat.le_refl _⟩, (Below.refl _ w).alloc (Nat.le_refl _) _⟩

set_option maxHeartbeats 1600000 in
set_option maxRecDepth 100000 in
theorem cMany {w : World} {B p : Nat} {va vb : Value} {bs ss : List Od} (h : BkA w B p va vb bs ss) (hl : bs.length ≤ 1000 ∧ ss.length ≤ 1000) :
    Calls Try.prog 53 #[ptr p] w fun e w' => e = .returned (.int .i64 ((bs.length : Int) + (ss.length : Int))) ∧ w = w' := by
  obtain ⟨hlt, c0, c1, _, _⟩ := h.bk.cells
  obtain ⟨ga, na, ca, rfl, hna⟩ := h.ra.asSlice
  obtain ⟨gb, nb, cb, rfl, hnb⟩ := h.rb.asSlice
  obtain ⟨n, hn⟩ : ∃ n, n = bs.length := ⟨_, rfl⟩
  obtain ⟨m, hm⟩ : ∃ m, m = ss.length := ⟨_, rfl⟩
  rw [← hn] at hl hna ⊢
  rw [← hm] at hl hnb ⊢
  subst hna hnb
  have ix0 : ∀ W, (Instr.index 79 (.agg #[.slice ga ca na, .slice gb cb nb]) (.int .i64 0)).run Try.prog W = .ok (.slice ga ca na) W := fun W => by first | kernel_rfl | rfl
  have ix1 : ∀ W, (Instr.index 79 (.agg #[.slice ga ca na, .slice gb cb nb]) (.int .i64 1)).run Try.prog W = .ok (.slice gb cb nb) W := fun W => by first | kernel_rfl | rfl
  clear h hn hm
  go_enter Try.func53, Try.ntmps53
  go_wp2_with fail
  go_loopg [3, 5, 10] 2 (fun gg s3 s5 s10 wr => ∃ k : Nat, k ≤ 2 ∧ 2 - k ≤ gg ∧ s10 = .int .i64 k ∧ s3 = .int .i64 (if k = 0 then 0 else if k = 1 then (ca : Int) else (ca : Int) + (cb : Int)) ∧ wr = w)
  case atStart => exact ⟨0, by omega, by omega, rfl, rfl, rfl⟩
  case round =>
    obtain ⟨k, hk, hg, rfl, rfl, rfl⟩ := hrel
    obtain rfl | rfl | rfl : k = 0 ∨ k = 1 ∨ k = 2 := by omega
    · go_wp2
      go_roundg 1
      case measure => omega
      case rel => exact ⟨1, by omega, by omega, by go_num, by simp, rfl⟩
    · go_wp2
      go_roundg 0
      case measure => omega
      case rel => exact ⟨2, by omega, by omega, by go_num, by simp, rfl⟩
    · go_wp2
      go_ret
      exact ⟨rfl, rfl⟩

set_option maxHeartbeats 1600000 in
set_option maxRecDepth 100000 in
theorem cOrders0 {w : World} {B p : Nat} {va vb : Value} {bs ss : List Od} (h : BkA w B p va vb bs ss) (hl : bs.length ≤ 1000 ∧ ss.length ≤ 1000) :
    Calls Try.prog 30 #[ptr p, .int .i64 0] w fun e w' => ∃ r, e = .returned r ∧ OwnO w' w.heap.size r bs ∧ Below w.heap.size w w' := by
  obtain ⟨hlt, c0, c1, _, _⟩ := h.bk.cells
  have HC := hid (cCloneO h.ra (by omega))
  clear h
  go_enter Try.func30, Try.ntmps30
  go_wp2_with (first
    | (go_at_call 43; refine (cIsSide _ _).mono ?_; rintro e w1 ⟨rfl, rfl⟩; rw [show sideB 0 = true from rfl])
    | (go_at_call 44; refine HC.out.mono ?_; rintro e w1 ⟨r, rfl, hO, hB⟩))
  go_ret
  exact ⟨_, rfl, hO, hB⟩
set_option maxHeartbeats 1600000 in
set_option maxRecDepth 100000 in
theorem cOrders1 {w : World} {B p : Nat} {va vb : Value} {bs ss : List Od} (h : BkA w B p va vb bs ss) (hl : bs.length ≤ 1000 ∧ ss.length ≤ 1000) :
    Calls Try.prog 30 #[ptr p, .int .i64 1] w fun e w' => ∃ r, e = .returned r ∧ OwnO w' w.heap.size r ss ∧ Below w.heap.size w w' := by
  obtain ⟨hlt, c0, c1, _, _⟩ := h.bk.cells
  have HC := hid (cCloneO h.rb (by omega))
  clear h
  go_enter Try.func30, Try.ntmps30
  go_wp2_with (first
    | (go_at_call 43; refine (cIsSide _ _).mono ?_; rintro e w1 ⟨rfl, rfl⟩; rw [show sideB 1 = true from rfl])
    | (go_at_call 44; refine HC.out.mono ?_; rintro e w1 ⟨r, rfl, hO, hB⟩))
  go_ret
  exact ⟨_, rfl, hO, hB⟩

/-- The order of a name. -/
def fO (bs ss : List Od) (id : Int) : Od := if bs.any (isI id) then (bs[bs.findIdx (isI id)]?).getD default else if ss.any (isI id) then (ss[ss.findIdx (isI id)]?).getD default else default
abbrev odB (o : Od) (b : Bool) : Value := .tuple #[o.v, .bool b]

theorem box4 {w wr : World} (hB : Below (w.heap.size + 1) (w.alloc (.cells #[.int .i64 0, .int .i64 0, .int .i64 0, .int .i64 0] 52)) wr) :
    (w.heap.size < wr.heap.size) ∧ (∀ f, f < 4 → wr.cell? ⟨w.heap.size, f, none⟩ = some (.int .i64 0)) ∧ (∀ f, wr.frozen? ⟨w.heap.size, f, none⟩ = false) := by
  have hs := hB.size
  refine ⟨by simp at hs; omega, fun f hf => ?_, fun f => ?_⟩
  · rw [hB.cell (p := ⟨w.heap.size, f, none⟩) (by show w.heap.size < w.heap.size + 1; omega)]
    match f, hf with
    | 0, _ => simp [go_sem]
    | 1, _ => simp [go_sem]
    | 2, _ => simp [go_sem]
    | 3, _ => simp [go_sem]
  · rw [hB.frozen (p := ⟨w.heap.size, f, none⟩) (by show w.heap.size < w.heap.size + 1; omega)]
    simp [go_sem]
theorem below_box {w wr : World} {o : Obj} (hB : Below (w.heap.size + 1) (w.alloc o) wr) : Below w.heap.size w wr := ((Below.refl w.heap.size w).alloc (Nat.le_refl _) o).trans (hB.mono (by omega))

end Go.Proofs.Ytdgllpfccdbdnaa
