/- The program's book: what is told of it. -/
import Derived.Test.YtdgllpfccdbdnaaBFun
namespace Go.Proofs.Ytdgllpfccdbdnaa
set_option linter.unusedVariables false
open Go.RowKit
open Go.Lib (hid)

/-- A book, its two sides' rows. -/
def Bk (w : World) (p : Nat) (va vb : Value) : Prop := w.heap[p]? = some (.cells #[va, vb] 81 (0, 0))
structure BkA (w : World) (B p : Nat) (va vb : Value) (bs ss : List Od) : Prop where
  bk : Bk w p va vb
  ra : OwnO w B va bs
  rb : OwnO w B vb ss
  ap : Apt va vb
  hp : B ≤ p
theorem Bk.cells {w : World} {p : Nat} {va vb : Value} (h : Bk w p va vb) : p < w.heap.size ∧ w.cell? ⟨p, 0, none⟩ = some va ∧ w.cell? ⟨p, 1, none⟩ = some vb ∧ w.frozen? ⟨p, 0, none⟩ = false ∧ w.frozen? ⟨p, 1, none⟩ = false := by
  unfold Bk at h
  exact ⟨(Array.getElem?_eq_some_iff.1 h).1, by rw [cellAt' h]; rfl, by rw [cellAt' h]; rfl, by simp [World.frozen?, h], by simp [World.frozen?, h]⟩
theorem BkA.on {w w' : World} {B p : Nat} {va vb : Value} {bs ss : List Od} (h : BkA w B p va vb bs ss) (hb : Below w.heap.size w w') : BkA w' B p va vb bs ss :=
  ⟨obOn h.bk hb (Array.getElem?_eq_some_iff.1 h.bk).1, h.ra.on hb, h.rb.on hb, h.ap, h.hp⟩
theorem OwnO.off {w : World} {B p : Nat} {v va vb : Value} {l : List Od} (h : OwnO w B v l) (hk : Bk w p va vb) : v.ownBlock ≠ some p := by
  rcases h.2 with ⟨rfl, _⟩ | ⟨g, cap, cur, rfl, _, hg, _⟩
  · simp [Value.ownBlock]
  · intro e
    simp [Value.ownBlock] at e
    subst e
    rw [hk] at hg
    injection hg with h1
    injection h1 with h2 h3
    exact absurd h3 (by decide)

/-- Where the order of a name rests. -/
def wOk (bs ss : List Od) (id : Int) : Bool := bs.any (isI id) || ss.any (isI id)
def wS (bs ss : List Od) (id : Int) : Int := if bs.any (isI id) then 0 else if ss.any (isI id) then 1 else 0
def wA (bs ss : List Od) (id : Int) : Int := if bs.any (isI id) then (bs.findIdx (isI id) : Int) else if ss.any (isI id) then (ss.findIdx (isI id) : Int) else 0
theorem idxO_any {p : Od → Bool} {l : List Od} (h : l.any p = true) : idxO p l = (l.findIdx p : Int) ∧ l.findIdx p < l.length := by
  have : l.findIdx p < l.length := by
    rw [List.findIdx_lt_length]
    simpa using h
  exact ⟨by unfold idxO; rw [if_pos this], this⟩
theorem idxO_none {p : Od → Bool} {l : List Od} (h : l.any p = false) : idxO p l = -1 := by
  refine idxO_miss fun j hj x hx => ?_
  have := List.any_eq_false.1 h x (List.mem_of_getElem? hx)
  simpa using this

set_option maxHeartbeats 3200000 in
set_option maxRecDepth 100000 in
theorem cWhere {w : World} {B p : Nat} {va vb : Value} {bs ss : List Od} (h : BkA w B p va vb bs ss) (hl : bs.length ≤ 1000 ∧ ss.length ≤ 1000) (id : Int) :
    Calls Try.prog 56 #[ptr p, .int .i64 id] w fun e w' => e = .returned (.tuple #[.int .i64 (wS bs ss id), .int .i64 (wA bs ss id), .bool (wOk bs ss id)]) ∧ Below w.heap.size w w' := by
  obtain ⟨hlt, c0, c1, _, _⟩ := h.bk.cells
  have eg : ∀ args w, (callFunc 66 args).run Try.prog w = .ok (.enter 66 args) w := enters_of Try.func66 (by kernel_rfl) rfl
  have hal : Below w.heap.size w (w.alloc (.cells #[.int .i64 id] 3)) := (Below.refl _ w).alloc (Nat.le_refl _) _
  have hI : ∀ (wr : World) (v : Value) (l : List Od), OwnO w B v l → l.length ≤ 1000 → Below (w.heap.size + 1) (w.alloc (.cells #[.int .i64 id] 3)) wr → Calls Try.prog 62 #[v, .func (.func 66) #[] #[ptr w.heap.size]] wr fun e w' => e = .returned (.int .i64 (idxO (isI id) l)) ∧ Below (w.heap.size + 1) (w.alloc (.cells #[.int .i64 id] 3)) w' := fun wr v l hv hl hB => by
    have hBw : Below w.heap.size w wr := hal.trans (hB.mono (by omega))
    have hq : w.heap.size < wr.heap.size := by have := hB.size; simp at this; omega
    have hc : wr.cell? ⟨w.heap.size, 0, none⟩ = some (.int .i64 id) := by
      rw [hB.cell (p := ⟨w.heap.size, 0, none⟩) (by show w.heap.size < w.heap.size + 1; omega)]
      simp
    exact (cIndexFunc (hv.on hBw) (by omega) (isI id) _ _ eg (cWhere1 id w.heap.size wr hq hc)).mono fun e w' ⟨he, hb⟩ => ⟨he, hB.trans (hb.mono (by omega))⟩
  have HA : Hid (∀ wr, Below (w.heap.size + 1) (w.alloc (.cells #[.int .i64 id] 3)) wr → Calls Try.prog 62 #[va, .func (.func 66) #[] #[ptr w.heap.size]] wr fun e w' => e = .returned (.int .i64 (idxO (isI id) bs)) ∧ Below (w.heap.size + 1) (w.alloc (.cells #[.int .i64 id] 3)) w') := hid fun wr => hI wr va bs h.ra hl.1
  have HB : Hid (∀ wr, Below (w.heap.size + 1) (w.alloc (.cells #[.int .i64 id] 3)) wr → Calls Try.prog 62 #[vb, .func (.func 66) #[] #[ptr w.heap.size]] wr fun e w' => e = .returned (.int .i64 (idxO (isI id) ss)) ∧ Below (w.heap.size + 1) (w.alloc (.cells #[.int .i64 id] 3)) w') := hid fun wr => hI wr vb ss h.rb hl.2
  have HAL := hid hal
  have ix0 : ∀ W, (Instr.index 79 (.agg #[va, vb]) (.int .i64 0)).run Try.prog W = .ok va W := fun W => by first | kernel_rfl | rfl
  have ix1 : ∀ W, (Instr.index 79 (.agg #[va, vb]) (.int .i64 1)).run Try.prog W = .ok vb W := fun W => by first | kernel_rfl | rfl
  clear hI h hal eg
  rcases ha : bs.any (isI id) with _ | _
  · have e1 : idxO (isI id) bs = -1 := idxO_none ha
    rw [e1] at HA
    rcases hb : ss.any (isI id) with _ | _
    · have e2 : idxO (isI id) ss = -1 := idxO_none hb
      rw [e2] at HB
      have hw : wS bs ss id = 0 ∧ wA bs ss id = 0 ∧ wOk bs ss id = false := by unfold wS wA wOk; rw [ha, hb]; exact ⟨rfl, rfl, rfl⟩
      rw [hw.1, hw.2.1, hw.2.2]
      clear hw ha hb e1 e2 hl
      go_enter Try.func56, Try.ntmps56
      go_wp2_with fail
      go_loopg [7, 8, 9, 14] 2 (fun gg s7 s8 s9 s14 wr => ∃ k : Nat, k ≤ 2 ∧ 2 - k ≤ gg ∧ s14 = .int .i64 k ∧ Hid (Below (w.heap.size + 1) (w.alloc (.cells #[.int .i64 id] 3)) wr))
      case atStart => exact ⟨0, by omega, by omega, rfl, hid (Below.refl _ _)⟩
      case round =>
        obtain ⟨k, hk, hg, rfl, HW⟩ := hrel
        obtain rfl | rfl | rfl : k = 0 ∨ k = 1 ∨ k = 2 := by omega
        · go_wp2_with (go_at_call 62; refine (HA.out _ HW.out).mono ?_; rintro e w1 ⟨rfl, hB1⟩)
          go_roundg 1
          case measure => omega
          case rel => exact ⟨1, by omega, by omega, by go_num, hid hB1⟩
        · go_wp2_with (go_at_call 62; refine (HB.out _ HW.out).mono ?_; rintro e w1 ⟨rfl, hB1⟩)
          go_roundg 0
          case measure => omega
          case rel => exact ⟨2, by omega, by omega, by go_num, hid hB1⟩
        · go_wp2
          refine bodyPost_ret (results_tmp3 rfl _ _ _) rfl ?_
          exact ⟨rfl, HAL.out.trans (HW.out.mono (by omega))⟩
    · obtain ⟨e2, hlt2⟩ := idxO_any hb
      rw [e2] at HB
      have hw : wS bs ss id = 1 ∧ wA bs ss id = (ss.findIdx (isI id) : Int) ∧ wOk bs ss id = true := by unfold wS wA wOk; rw [ha, hb]; exact ⟨rfl, rfl, rfl⟩
      rw [hw.1, hw.2.1, hw.2.2]
      obtain ⟨m, hm⟩ : ∃ m : Nat, m = ss.findIdx (isI id) := ⟨_, rfl⟩
      rw [← hm] at HB ⊢
      clear hw ha hb e1 e2 hl hm hlt2
      go_enter Try.func56, Try.ntmps56
      go_wp2_with fail
      go_loopg [7, 8, 9, 14] 1 (fun gg s7 s8 s9 s14 wr => ∃ k : Nat, k ≤ 1 ∧ 1 - k ≤ gg ∧ s14 = .int .i64 k ∧ Hid (Below (w.heap.size + 1) (w.alloc (.cells #[.int .i64 id] 3)) wr))
      case atStart => exact ⟨0, by omega, by omega, rfl, hid (Below.refl _ _)⟩
      case round =>
        obtain ⟨k, hk, hg, rfl, HW⟩ := hrel
        obtain rfl | rfl : k = 0 ∨ k = 1 := by omega
        · go_wp2_with (go_at_call 62; refine (HA.out _ HW.out).mono ?_; rintro e w1 ⟨rfl, hB1⟩)
          go_roundg 0
          case measure => omega
          case rel => exact ⟨1, by omega, by omega, by go_num, hid hB1⟩
        · go_wp2_with (go_at_call 62; refine (HB.out _ HW.out).mono ?_; rintro e w1 ⟨rfl, hB1⟩)
          refine bodyPost_ret (results_tmp3 rfl _ _ _) rfl ?_
          exact ⟨rfl, HAL.out.trans (hB1.mono (by omega))⟩
  · obtain ⟨e2, hlt2⟩ := idxO_any ha
    rw [e2] at HA
    have hw : wS bs ss id = 0 ∧ wA bs ss id = (bs.findIdx (isI id) : Int) ∧ wOk bs ss id = true := by unfold wS wA wOk; rw [ha]; exact ⟨rfl, rfl, rfl⟩
    rw [hw.1, hw.2.1, hw.2.2]
    obtain ⟨m, hm⟩ : ∃ m : Nat, m = bs.findIdx (isI id) := ⟨_, rfl⟩
    rw [← hm] at HA ⊢
    clear hw ha e2 hl hm hlt2
    go_enter Try.func56, Try.ntmps56
    go_wp2_with fail
    go_loopg [7, 8, 9, 14] 0 (fun gg s7 s8 s9 s14 wr => s14 = .int .i64 0 ∧ Hid (Below (w.heap.size + 1) (w.alloc (.cells #[.int .i64 id] 3)) wr))
    case atStart => exact ⟨rfl, hid (Below.refl _ _)⟩
    case round =>
      obtain ⟨rfl, HW⟩ := hrel
      go_wp2_with (go_at_call 62; refine (HA.out _ HW.out).mono ?_; rintro e w1 ⟨rfl, hB1⟩)
      refine bodyPost_ret (results_tmp3 rfl _ _ _) rfl ?_
      exact ⟨rfl, HAL.out.trans (hB1.mono (by omega))⟩
end Go.Proofs.Ytdgllpfccdbdnaa
