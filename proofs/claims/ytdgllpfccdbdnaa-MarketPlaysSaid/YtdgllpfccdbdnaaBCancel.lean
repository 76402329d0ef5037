/- The program's book: Cancel. -/
import Derived.Test.YtdgllpfccdbdnaaBActs
namespace Go.Proofs.Ytdgllpfccdbdnaa
set_option linter.unusedVariables false
open Go.RowKit
open Go.Lib (hid)

theorem BkTo.refl {w : World} {B p : Nat} {va vb : Value} {bs ss : List Od} (h : BkA w B p va vb bs ss) : BkTo w w B p va vb bs ss := ⟨va, vb, h, Tch.refl _ _, Fr.refl _ _, Fr.refl _ _⟩
/-- A block that the call made ahead of an act stands. -/
theorem BkTo.box {w w1 w2 : World} {B p : Nat} {va vb : Value} {bs ss bs1 ss1 : List Od} (h : BkTo w1 w2 B p va vb bs1 ss1) (h0 : BkA w B p va vb bs ss) {N : Nat} (hN : w.heap.size ≤ N) (hn : N < w1.heap.size) : w2.heap[N]? = w1.heap[N]? := by
  obtain ⟨va1, vb1, h1, t1, f1, g1⟩ := h
  refine t1.block N hn ?_
  intro hk
  have := (h0.nb N hk).2
  omega
/-- What an act tells, and leaves: its error, its fills, what is left; the book's two sides. -/
def Told (w w' : World) (B p : Nat) (va vb : Value) (e : Ending) (err : Int) (fs : List Fl) (left : Int) (bs' ss' : List Od) : Prop :=
  ∃ f, e = .returned (rpV err f left) ∧ OwnF w' w.heap.size f fs ∧ BkTo w w' B p va vb bs' ss'
abbrev box3 : Obj := .cells #[.int .i64 0, .slice none 0 0, .int .i64 0] 37 (0, 0)
theorem box3_at {w w1 : World} (h : w1.heap[w.heap.size]? = some box3) : (w1.cell? ⟨w.heap.size, 0, none⟩ = some (.int .i64 0) ∧ w1.cell? ⟨w.heap.size, 1, none⟩ = some (.slice none 0 0) ∧ w1.cell? ⟨w.heap.size, 2, none⟩ = some (.int .i64 0)) ∧ (∀ f, w1.frozen? ⟨w.heap.size, f, none⟩ = false) ∧ w.heap.size < w1.heap.size := by
  refine ⟨⟨by rw [cellAt' h]; rfl, by rw [cellAt' h]; rfl, by rw [cellAt' h]; rfl⟩, fun f => by simp [World.frozen?, h], (Array.getElem?_eq_some_iff.1 h).1⟩

set_option maxHeartbeats 3200000 in
set_option maxRecDepth 100000 in
theorem cCancel_no {w : World} {B p : Nat} {va vb : Value} {bs ss : List Od} (h : BkA w B p va vb bs ss) (hl : bs.length ≤ 1000 ∧ ss.length ≤ 1000) (id : Int) (ha : bs.any (isI id) = false) (hb : ss.any (isI id) = false) :
    Calls Try.prog 34 #[ptr p, .int .i64 id] w fun e w' => Told w w' B p va vb e 5 [] 0 bs ss := by
  have hal : Below w.heap.size w (w.alloc box3) := (Below.refl _ w).alloc (Nat.le_refl _) _
  have e1 : wOk bs ss id = false := by unfold wOk; rw [ha, hb]; rfl
  have HW := hid (cWhere (h.on hal) hl id)
  rw [e1] at HW
  have HH := hid h
  clear h ha hb e1 hal
  go_enter Try.func34, Try.ntmps34
  go_wp2_with (first
    | (go_at_call 56; refine HW.out.mono ?_; rintro e w1 ⟨rfl, hB1⟩; have HB1 := hid hB1; clear hB1)
    | (go_at_call 49; refine (cFailed _ _).mono ?_; rintro e w2 ⟨rfl, hB2⟩; have hB := HB1.out.trans (hB2.mono HB1.out.size); have hx := box3_at (obOn (heap_alloc_new w box3) (hB.mono (B' := w.heap.size + 1) (by simp)) (by omega)); obtain ⟨⟨k0, k1, k2⟩, fz, hz⟩ := hx; have HB := hid (below_box (hB.mono (B' := w.heap.size + 1) (by simp))); clear hB2 hB))
  refine bodyPost_ret (v := rpV 5 (.slice none 0 0) 0) (by simp [results, Try.results34, go_sem, k0, k1, k2]) rfl ⟨_, rfl, World.ownsRow_nil _ _ _ _, ?_⟩
  exact (BkTo.refl HH.out).on (((HB.out.setCell (Nat.le_refl _) _).setCell (Nat.le_refl _) _).setCell (Nat.le_refl _) _)

set_option maxHeartbeats 3200000 in
set_option maxRecDepth 100000 in
theorem cCancel_0 {w : World} {B p : Nat} {va vb : Value} {bs ss : List Od} (h : BkA w B p va vb bs ss) (hl : bs.length ≤ 1000 ∧ ss.length ≤ 1000) (id : Int) (ha : bs.any (isI id) = true) (k : Nat) (hk : k = bs.findIdx (isI id)) (o : Od) (ho : bs[k]? = some o) :
    Calls Try.prog 34 #[ptr p, .int .i64 id] w fun e w' => Told w w' B p va vb e 0 [] o.n (less bs k) ss := by
  have hal : Below w.heap.size w (w.alloc box3) := (Below.refl _ w).alloc (Nat.le_refl _) _
  have e1 : wOk bs ss id = true := by unfold wOk; rw [ha]; rfl
  have e3 : wS bs ss id = 0 := by unfold wS; rw [ha]; rfl
  have e4 : wA bs ss id = (k : Int) := by unfold wA; rw [ha, hk]; rfl
  have HW := hid (cWhere (h.on hal) hl id)
  rw [e1, e3, e4] at HW
  have HH := hid h
  have HR : Hid (∀ W, Below w.heap.size w W → Calls Try.prog 57 #[ptr p, .int .i64 0, .int .i64 k] W fun e w' => e = .returned o.v ∧ BkTo W w' B p va vb (less bs k) ss) := hid fun W hW => cRemove0 (h.on hW) hl k o ho
  have hf : ∀ W, (Instr.field 52 o.v 3).run Try.prog W = .ok (.int .i64 o.n) W := fun W => by first | kernel_rfl | rfl
  clear h ha e1 e3 e4 hal hk ho
  go_enter Try.func34, Try.ntmps34
  go_wp2_with (first
    | (go_at_call 56; refine HW.out.mono ?_; rintro e w1 ⟨rfl, hB1⟩; have HB1 := hid hB1; clear hB1)
    | (go_at_call 57; refine (HR.out _ (below_box (HB1.out.mono (B' := w.heap.size + 1) (by simp)))).mono ?_; rintro e w2 ⟨rfl, hT⟩; have hq := obOn (heap_alloc_new w box3) (HB1.out.mono (B' := w.heap.size + 1) (by simp)) (by omega); have hsz : w.heap.size < w1.heap.size := (Array.getElem?_eq_some_iff.1 hq).1; have hx := box3_at ((hT.box HH.out (Nat.le_refl _) hsz).trans hq); obtain ⟨⟨k0, k1, k2⟩, fz, hz⟩ := hx; have HT := hid (BkTo.n (below_box (HB1.out.mono (B' := w.heap.size + 1) (by simp))) hT); clear hq hT))
  refine bodyPost_ret (v := rpV 0 (.slice none 0 0) o.n) (by simp [results, Try.results34, go_sem, k0, k1, k2]) rfl ⟨_, rfl, World.ownsRow_nil _ _ _ _, ?_⟩
  exact BkN.to (((HT.out.set HH.out (Nat.le_refl _) hsz _ _).set HH.out (Nat.le_refl _) hsz _ _).set HH.out (Nat.le_refl _) hsz _ _) (Nat.le_of_lt hsz)

set_option maxHeartbeats 3200000 in
set_option maxRecDepth 100000 in
theorem cCancel_1 {w : World} {B p : Nat} {va vb : Value} {bs ss : List Od} (h : BkA w B p va vb bs ss) (hl : bs.length ≤ 1000 ∧ ss.length ≤ 1000) (id : Int) (ha : bs.any (isI id) = false) (hb : ss.any (isI id) = true) (k : Nat) (hk : k = ss.findIdx (isI id)) (o : Od) (ho : ss[k]? = some o) :
    Calls Try.prog 34 #[ptr p, .int .i64 id] w fun e w' => Told w w' B p va vb e 0 [] o.n bs (less ss k) := by
  have hal : Below w.heap.size w (w.alloc box3) := (Below.refl _ w).alloc (Nat.le_refl _) _
  have e1 : wOk bs ss id = true := by unfold wOk; rw [ha, hb]; rfl
  have e3 : wS bs ss id = 1 := by unfold wS; rw [ha, hb]; rfl
  have e4 : wA bs ss id = (k : Int) := by unfold wA; rw [ha, hb, hk]; rfl
  have HW := hid (cWhere (h.on hal) hl id)
  rw [e1, e3, e4] at HW
  have HH := hid h
  have HR : Hid (∀ W, Below w.heap.size w W → Calls Try.prog 57 #[ptr p, .int .i64 1, .int .i64 k] W fun e w' => e = .returned o.v ∧ BkTo W w' B p va vb bs (less ss k)) := hid fun W hW => cRemove1 (h.on hW) hl k o ho
  have hf : ∀ W, (Instr.field 52 o.v 3).run Try.prog W = .ok (.int .i64 o.n) W := fun W => by first | kernel_rfl | rfl
  clear h hb e1 e3 e4 hal hk ho
  go_enter Try.func34, Try.ntmps34
  go_wp2_with (first
    | (go_at_call 56; refine HW.out.mono ?_; rintro e w1 ⟨rfl, hB1⟩; have HB1 := hid hB1; clear hB1)
    | (go_at_call 57; refine (HR.out _ (below_box (HB1.out.mono (B' := w.heap.size + 1) (by simp)))).mono ?_; rintro e w2 ⟨rfl, hT⟩; have hq := obOn (heap_alloc_new w box3) (HB1.out.mono (B' := w.heap.size + 1) (by simp)) (by omega); have hsz : w.heap.size < w1.heap.size := (Array.getElem?_eq_some_iff.1 hq).1; have hx := box3_at ((hT.box HH.out (Nat.le_refl _) hsz).trans hq); obtain ⟨⟨k0, k1, k2⟩, fz, hz⟩ := hx; have HT := hid (BkTo.n (below_box (HB1.out.mono (B' := w.heap.size + 1) (by simp))) hT); clear hq hT))
  refine bodyPost_ret (v := rpV 0 (.slice none 0 0) o.n) (by simp [results, Try.results34, go_sem, k0, k1, k2]) rfl ⟨_, rfl, World.ownsRow_nil _ _ _ _, ?_⟩
  exact BkN.to (((HT.out.set HH.out (Nat.le_refl _) hsz _ _).set HH.out (Nat.le_refl _) hsz _ _).set HH.out (Nat.le_refl _) hsz _ _) (Nat.le_of_lt hsz)
end Go.Proofs.Ytdgllpfccdbdnaa
