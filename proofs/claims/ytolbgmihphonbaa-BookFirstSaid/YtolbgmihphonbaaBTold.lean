/- The program's book: New, many, Orders, Find. -/
import Derived.Test.YtolbgmihphonbaaBBook
namespace Go.Proofs.Ytolbgmihphonbaa
set_option linter.unusedVariables false
open Go.RowKit
open Go.Lib (hid)

set_option maxRecDepth 100000 in
theorem cNew (w : World) : Calls Try.prog 6 #[] w fun e w' => e = .returned (ptr w.heap.size) ∧ BkA w' w.heap.size w.heap.size (.slice none 0 0) (.slice none 0 0) [] [] ∧ Below w.heap.size w w' := by
  go_enter Try.func6, Try.ntmps6
  go_wp2
  go_ret
  exact ⟨rfl, ⟨heap_alloc_new w _, World.ownsRow_nil _ _ _ _, World.ownsRow_nil _ _ _ _, (fun k hk => by cases hk), Nat.le_refl _⟩, (Below.refl _ w).alloc (Nat.le_refl _) _⟩

set_option maxHeartbeats 1600000 in
set_option maxRecDepth 100000 in
theorem cMany {w : World} {B p : Nat} {va vb : Value} {bs ss : List Od} (h : BkA w B p va vb bs ss) (hl : bs.length ≤ 1000 ∧ ss.length ≤ 1000) :
    Calls Try.prog 25 #[ptr p] w fun e w' => e = .returned (.int .i64 ((bs.length : Int) + (ss.length : Int))) ∧ w = w' := by
  obtain ⟨hlt, c0, c1, _, _⟩ := h.bk.cells
  obtain ⟨ga, na, ca, rfl, hna⟩ := h.ra.asSlice
  obtain ⟨gb, nb, cb, rfl, hnb⟩ := h.rb.asSlice
  obtain ⟨n, hn⟩ : ∃ n, n = bs.length := ⟨_, rfl⟩
  obtain ⟨m, hm⟩ : ∃ m, m = ss.length := ⟨_, rfl⟩
  rw [← hn] at hl hna ⊢
  rw [← hm] at hl hnb ⊢
  subst hna hnb
  have ix0 : ∀ W, (Instr.index 53 (.agg #[.slice ga ca na, .slice gb cb nb]) (.int .i64 0)).run Try.prog W = .ok (.slice ga ca na) W := fun W => by first | kernel_rfl | rfl
  have ix1 : ∀ W, (Instr.index 53 (.agg #[.slice ga ca na, .slice gb cb nb]) (.int .i64 1)).run Try.prog W = .ok (.slice gb cb nb) W := fun W => by first | kernel_rfl | rfl
  clear h hn hm
  go_enter Try.func25, Try.ntmps25
  go_wp2_with fail
  go_loopg [3, 5, 10] 2 (fun gg s3 s5 s10 wr => ∃ k : Nat, k ≤ 2 ∧ 2 - k ≤ gg ∧ s10 = .int .i64 k ∧ s3 = .int .i64 (if k = 0 then 0 else if k = 1 then (ca : Int) else (ca : Int) + (cb : Int)) ∧ wr = w)
  case atStart => exact ⟨0, by omega, by omega, rfl, rfl, rfl⟩
  case round =>
    obtain ⟨k, hk, hg, rfl, rfl, rfl⟩ := hrel
    obtain rfl | rfl | rfl : k = 0 ∨ k = 1 ∨ k = 2 := by omega
    · go_wp2
      go_roundg 1
      case measure => omega
      case rel => exact ⟨1, by omega, by omega, by go_num, by simp, rfl⟩
    · go_wp2
      go_roundg 0
      case measure => omega
      case rel => exact ⟨2, by omega, by omega, by go_num, by simp, rfl⟩
    · go_wp2
      go_ret
      exact ⟨rfl, rfl⟩

set_option maxHeartbeats 1600000 in
set_option maxRecDepth 100000 in
theorem cOrders0 {w : World} {B p : Nat} {va vb : Value} {bs ss : List Od} (h : BkA w B p va vb bs ss) (hl : bs.length ≤ 1000 ∧ ss.length ≤ 1000) :
    Calls Try.prog 12 #[ptr p, .int .i64 0] w fun e w' => ∃ r, e = .returned r ∧ OwnO w' w.heap.size r bs ∧ Below w.heap.size w w' := by
  obtain ⟨hlt, c0, c1, _, _⟩ := h.bk.cells
  have HC := hid (cCloneO h.ra (by omega))
  clear h
  go_enter Try.func12, Try.ntmps12
  go_wp2_with (first
    | (go_at_call 19; refine (cIsSide _ _).mono ?_; rintro e w1 ⟨rfl, rfl⟩; rw [show sideB 0 = true from rfl])
    | (go_at_call 20; refine HC.out.mono ?_; rintro e w1 ⟨r, rfl, hO, hB⟩))
  go_ret
  exact ⟨_, rfl, hO, hB⟩
set_option maxHeartbeats 1600000 in
set_option maxRecDepth 100000 in
theorem cOrders1 {w : World} {B p : Nat} {va vb : Value} {bs ss : List Od} (h : BkA w B p va vb bs ss) (hl : bs.length ≤ 1000 ∧ ss.length ≤ 1000) :
    Calls Try.prog 12 #[ptr p, .int .i64 1] w fun e w' => ∃ r, e = .returned r ∧ OwnO w' w.heap.size r ss ∧ Below w.heap.size w w' := by
  obtain ⟨hlt, c0, c1, _, _⟩ := h.bk.cells
  have HC := hid (cCloneO h.rb (by omega))
  clear h
  go_enter Try.func12, Try.ntmps12
  go_wp2_with (first
    | (go_at_call 19; refine (cIsSide _ _).mono ?_; rintro e w1 ⟨rfl, rfl⟩; rw [show sideB 1 = true from rfl])
    | (go_at_call 20; refine HC.out.mono ?_; rintro e w1 ⟨r, rfl, hO, hB⟩))
  go_ret
  exact ⟨_, rfl, hO, hB⟩

/-- The order of a name. -/
def fO (bs ss : List Od) (id : Int) : Od := if bs.any (isI id) then (bs[bs.findIdx (isI id)]?).getD default else if ss.any (isI id) then (ss[ss.findIdx (isI id)]?).getD default else default
abbrev odB (o : Od) (b : Bool) : Value := .tuple #[o.v, .bool b]

theorem box4 {w wr : World} (hB : Below (w.heap.size + 1) (w.alloc (.cells #[.int .i64 0, .int .i64 0, .int .i64 0, .int .i64 0] 29)) wr) :
    (w.heap.size < wr.heap.size) ∧ (∀ f, f < 4 → wr.cell? ⟨w.heap.size, f, none⟩ = some (.int .i64 0)) ∧ (∀ f, wr.frozen? ⟨w.heap.size, f, none⟩ = false) := by
  have hs := hB.size
  refine ⟨by simp at hs; omega, fun f hf => ?_, fun f => ?_⟩
  · rw [hB.cell (p := ⟨w.heap.size, f, none⟩) (by show w.heap.size < w.heap.size + 1; omega)]
    match f, hf with
    | 0, _ => simp [go_sem]
    | 1, _ => simp [go_sem]
    | 2, _ => simp [go_sem]
    | 3, _ => simp [go_sem]
  · rw [hB.frozen (p := ⟨w.heap.size, f, none⟩) (by show w.heap.size < w.heap.size + 1; omega)]
    simp [go_sem]
theorem below_box {w wr : World} {o : Obj} (hB : Below (w.heap.size + 1) (w.alloc o) wr) : Below w.heap.size w wr := ((Below.refl w.heap.size w).alloc (Nat.le_refl _) o).trans (hB.mono (by omega))

set_option maxHeartbeats 3200000 in
set_option maxRecDepth 100000 in
theorem cFind {w : World} {B p : Nat} {va vb : Value} {bs ss : List Od} (h : BkA w B p va vb bs ss) (hl : bs.length ≤ 1000 ∧ ss.length ≤ 1000) (id : Int) :
    Calls Try.prog 8 #[ptr p, .int .i64 id] w fun e w' => e = .returned (odB (fO bs ss id) (wOk bs ss id)) ∧ Below w.heap.size w w' := by
  have hal : Below w.heap.size w (w.alloc (.cells #[.int .i64 0, .int .i64 0, .int .i64 0, .int .i64 0] 29)) := (Below.refl _ w).alloc (Nat.le_refl _) _
  have HW := hid (cWhere (h.on hal) hl id)

  rcases ha : bs.any (isI id) with _ | _
  · rcases hb : ss.any (isI id) with _ | _
    · have e1 : wOk bs ss id = false := by unfold wOk; rw [ha, hb]; rfl
      have e2 : fO bs ss id = default := by unfold fO; rw [ha, hb]; rfl
      rw [e1] at HW ⊢
      rw [e2]
      clear h ha hb e1 e2 hal
      go_enter Try.func8, Try.ntmps8
      go_wp2_with (go_at_call 17; refine HW.out.mono ?_; rintro e w1 ⟨rfl, hB1⟩; have HB1 := hid (below_box (hB1.mono (by simp))); have hx := box4 (hB1.mono (by simp)); obtain ⟨hz, hcl, hfr⟩ := hx; have k0 := hcl 0 (by omega); have k1 := hcl 1 (by omega); have k2 := hcl 2 (by omega); have k3 := hcl 3 (by omega); clear hcl hB1)
      refine bodyPost_ret (v := odB ⟨0, 0, 0, 0⟩ false) (by simp [results, Try.results8, go_sem, k0, k1, k2, k3]) rfl ⟨rfl, ?_⟩
      exact (((HB1.out.setCell (Nat.le_refl _) _).setCell (Nat.le_refl _) _).setCell (Nat.le_refl _) _).setCell (Nat.le_refl _) _
    · have e1 : wOk bs ss id = true := by unfold wOk; rw [ha, hb]; rfl
      obtain ⟨_, hlt⟩ := idxO_any hb
      obtain ⟨k, hk⟩ : ∃ k, k = ss.findIdx (isI id) := ⟨_, rfl⟩
      rw [← hk] at hlt
      obtain ⟨o, ho⟩ : ∃ o, ss[k]? = some o := ⟨_, List.getElem?_eq_getElem hlt⟩
      have e2 : fO bs ss id = o := by unfold fO; rw [ha, hb, ← hk, ho]; rfl
      have e3 : wS bs ss id = 1 := by unfold wS; rw [ha, hb]; rfl
      have e4 : wA bs ss id = (k : Int) := by unfold wA; rw [ha, hb, hk]; rfl
      rw [e1, e3, e4] at HW
      rw [e1, e2]
      rcases h.rb.shape with ⟨_, rfl⟩ | ⟨g, cap, rfl, hn, hm, hB, hg, hc, _⟩
      · simp at hlt
      obtain ⟨o0, o1, o2, o3⟩ := hc k o ho
      obtain ⟨hpl, c0, c1, _, _⟩ := h.bk.cells
      have HC := hid (And.intro (And.intro hpl c1) (And.intro hg (And.intro o0 (And.intro o1 (And.intro o2 o3)))))
      obtain ⟨n, hnl⟩ : ∃ n, n = ss.length := ⟨_, rfl⟩
      rw [← hnl] at hlt hl HC
      clear h ha hb e1 e2 e3 e4 hal hk ho hc hn hm hB hg o0 o1 o2 o3 hpl c0 c1 hnl
      go_enter Try.func8, Try.ntmps8
      go_wp2_with (go_at_call 17; refine HW.out.mono ?_; rintro e w1 ⟨rfl, hB1⟩; have HB1 := hid (below_box (hB1.mono (by simp))); have hx := box4 (hB1.mono (by simp)); obtain ⟨hz, hcl, hfr⟩ := hx; have k0 := hcl 0 (by omega); have k1 := hcl 1 (by omega); have k2 := hcl 2 (by omega); have k3 := hcl 3 (by omega); have d1 := (HB1.out.cell (p := ⟨p, 1, none⟩) HC.out.1.1).trans HC.out.1.2; have q0 := (HB1.out.cell (p := ⟨g, k * 4, none⟩) HC.out.2.1).trans HC.out.2.2.1; have q1 := (HB1.out.cell (p := ⟨g, k * 4 + 1, none⟩) HC.out.2.1).trans HC.out.2.2.2.1; have q2 := (HB1.out.cell (p := ⟨g, k * 4 + 2, none⟩) HC.out.2.1).trans HC.out.2.2.2.2.1; have q3 := (HB1.out.cell (p := ⟨g, k * 4 + 3, none⟩) HC.out.2.1).trans HC.out.2.2.2.2.2; have hne : ¬ w.heap.size = g := (by have := HC.out.2.1; omega); clear hcl hB1)
      refine bodyPost_ret (v := odB o true) (by simp [results, Try.results8, go_sem, k0, k1, k2, k3]) rfl ⟨rfl, ?_⟩
      exact (((HB1.out.setCell (Nat.le_refl _) _).setCell (Nat.le_refl _) _).setCell (Nat.le_refl _) _).setCell (Nat.le_refl _) _
  · have e1 : wOk bs ss id = true := by unfold wOk; rw [ha]; rfl
    obtain ⟨_, hlt⟩ := idxO_any ha
    obtain ⟨k, hk⟩ : ∃ k, k = bs.findIdx (isI id) := ⟨_, rfl⟩
    rw [← hk] at hlt
    obtain ⟨o, ho⟩ : ∃ o, bs[k]? = some o := ⟨_, List.getElem?_eq_getElem hlt⟩
    have e2 : fO bs ss id = o := by unfold fO; rw [ha, ← hk, ho]; rfl
    have e3 : wS bs ss id = 0 := by unfold wS; rw [ha]; rfl
    have e4 : wA bs ss id = (k : Int) := by unfold wA; rw [ha, hk]; rfl
    rw [e1, e3, e4] at HW
    rw [e1, e2]
    rcases h.ra.shape with ⟨_, rfl⟩ | ⟨g, cap, rfl, hn, hm, hB, hg, hc, _⟩
    · simp at hlt
    obtain ⟨o0, o1, o2, o3⟩ := hc k o ho
    obtain ⟨hpl, c0, c1, _, _⟩ := h.bk.cells
    have HC := hid (And.intro (And.intro hpl c0) (And.intro hg (And.intro o0 (And.intro o1 (And.intro o2 o3)))))
    obtain ⟨n, hnl⟩ : ∃ n, n = bs.length := ⟨_, rfl⟩
    rw [← hnl] at hlt hl HC
    clear h ha e1 e2 e3 e4 hal hk ho hc hn hm hB hg o0 o1 o2 o3 hpl c0 c1 hnl
    go_enter Try.func8, Try.ntmps8
    go_wp2_with (go_at_call 17; refine HW.out.mono ?_; rintro e w1 ⟨rfl, hB1⟩; have HB1 := hid (below_box (hB1.mono (by simp))); have hx := box4 (hB1.mono (by simp)); obtain ⟨hz, hcl, hfr⟩ := hx; have k0 := hcl 0 (by omega); have k1 := hcl 1 (by omega); have k2 := hcl 2 (by omega); have k3 := hcl 3 (by omega); have d1 := (HB1.out.cell (p := ⟨p, 0, none⟩) HC.out.1.1).trans HC.out.1.2; have q0 := (HB1.out.cell (p := ⟨g, k * 4, none⟩) HC.out.2.1).trans HC.out.2.2.1; have q1 := (HB1.out.cell (p := ⟨g, k * 4 + 1, none⟩) HC.out.2.1).trans HC.out.2.2.2.1; have q2 := (HB1.out.cell (p := ⟨g, k * 4 + 2, none⟩) HC.out.2.1).trans HC.out.2.2.2.2.1; have q3 := (HB1.out.cell (p := ⟨g, k * 4 + 3, none⟩) HC.out.2.1).trans HC.out.2.2.2.2.2; have hne : ¬ w.heap.size = g := (by have := HC.out.2.1; omega); clear hcl hB1)
    refine bodyPost_ret (v := odB o true) (by simp [results, Try.results8, go_sem, k0, k1, k2, k3]) rfl ⟨rfl, ?_⟩
    exact (((HB1.out.setCell (Nat.le_refl _) _).setCell (Nat.le_refl _) _).setCell (Nat.le_refl _) _).setCell (Nat.le_refl _) _
end Go.Proofs.Ytolbgmihphonbaa
