/- The law's step, all ways; one disk and what is done with it; the live question of layer 8. -/
import Derived.Test.YtiloeejpjjdaeaaDStep1
import Derived.Test.YtiloeejpjjdaeaaDStep2
import Derived.Test.YtiloeejpjjdaeaaDStep3
import Derived.Test.YtiloeejpjjdaeaaDStep4
import Derived.Lib.SlBytesConst
namespace Go.Proofs.Ytiloeejpjjdaeaa
set_option linter.unusedVariables false
open Go.RowKit
open Go.Lib (hid)

theorem cStep {w0 w : World} {p q N s : Nat} {room : Int} {l : List UInt8} {x : Av} (hT : Two w w0.heap.size N p q room l s) (hb : Below w0.heap.size w0 w) (hx : SlB w0 x.s.v x.b) (hr : roomB room = true) (hl : l.length + x.b.length ≤ 1000000) (hk8 : x.k < 256) :
    Calls Try.prog 17 #[ptr p, ptr q, .agg x.arr] w (StepPost w0 w N p q room l x.b) := by
  have h5 : x.k % 5 = 0 ∨ x.k % 5 = 1 ∨ x.k % 5 = 2 ∨ x.k % 5 = 3 ∨ x.k % 5 = 4 := by omega
  rcases h5 with h | h | h | h | h
  · by_cases hf : room - (l.length : Int) < (x.b.length : Int)
    · exact step_full0 hT hb hx hr hl h hk8 hf
    · exact step_room0 hT hb hx hr hl h hk8 hf
  · by_cases hf : room - (l.length : Int) < (x.b.length : Int)
    · exact step_full1 hT hb hx hr hl h hk8 hf
    · exact step_room1 hT hb hx hr hl h hk8 hf
  · exact step_sync hT hb hx hr hl h hk8
  · exact step_crash hT hb hx hr hl h hk8
  · by_cases hf : x.n < 0 ∨ (l.length : Int) < x.n
    · exact step_nocut hT hb hx hr hl h hk8 hf
    · exact step_cut hT hb hx hr hl h hk8 hf

/-- A disk, made since w. -/
def One (w W : World) (p : Nat) (room : Int) (l : List UInt8) (s : Nat) : Prop := ∃ v, Dk W p room v s ∧ OwnB W w.heap.size v l ∧ w.heap.size ≤ p ∧ Below w.heap.size w W ∧ s ≤ l.length
theorem One.on {w W W' : World} {p s : Nat} {room : Int} {l : List UInt8} (h : One w W p room l s) (hb : Below W.heap.size W W') : One w W' p room l s := by
  obtain ⟨v, h1, h2, h3, h4, h5⟩ := h
  exact ⟨v, obOn h1 hb (Array.getElem?_eq_some_iff.1 h1).1, own_below h2 hb (fun k hk => (h2.lt k hk).2), h3, h4.trans (hb.mono h4.size), h5⟩
theorem One.below {w W : World} {p s : Nat} {room : Int} {l : List UInt8} (h : One w W p room l s) : Below w.heap.size w W := by
  obtain ⟨v, h1, h2, h3, h4, h5⟩ := h; exact h4
theorem One.sle {w W : World} {p s : Nat} {room : Int} {l : List UInt8} (h : One w W p room l s) : s ≤ l.length := by
  obtain ⟨v, h1, h2, h3, h4, h5⟩ := h; exact h5
theorem One.plt {w W : World} {p s : Nat} {room : Int} {l : List UInt8} (h : One w W p room l s) : p < W.heap.size := by
  obtain ⟨v, h1, h2, h3, h4, h5⟩ := h; exact (Array.getElem?_eq_some_iff.1 h1).1
theorem one_new {w W : World} {room : Int} (hb : Below w.heap.size w W) (h : roomB room = true) : Calls Try.prog 7 #[.int .i64 room] W fun e w' => e = .returned (.tuple #[ptr W.heap.size, .int .i64 0]) ∧ One w w' W.heap.size room [] 0 := by
  refine (cNew_yes room h W).mono ?_
  rintro e w' ⟨rfl, hD, hB⟩
  exact ⟨rfl, ⟨_, hD, OwnB.nil _ _, hb.size, hb.trans (hB.mono hb.size), Nat.le_refl _⟩⟩
theorem one_append {w W : World} {p s : Nat} {room : Int} {l b : List UInt8} {vb : Value} (h : One w W p room l s) (hb : SlB W vb b) (hr : roomB room = true) (hl : l.length + b.length ≤ 1000000) (hf : ¬ room - (l.length : Int) < (b.length : Int)) : Calls Try.prog 11 #[ptr p, vb] W fun e w' => e = .returned (.int .i64 0) ∧ One w w' p room (l ++ b) s := by
  obtain ⟨v, h1, h2, h3, h4, h5⟩ := h
  refine (cAppend_yes h1 h2 hb h4.size hr hl hf).mono ?_
  rintro e w' ⟨rfl, ⟨v', hD, hO⟩, Wm, g1, g2⟩
  refine ⟨rfl, ⟨v', hD, hO, h3, ?_, by rw [List.length_append]; omega⟩⟩
  have := g1.size
  have := h4.size
  exact (h4.grown g1 h4.size (fun k hk => (h2.lt k hk).1)).grown g2 (by omega) (fun k hk => by injection hk with hk; omega)
theorem one_full {w W : World} {p s : Nat} {room : Int} {l b : List UInt8} {vb : Value} (h : One w W p room l s) (hb : SlB W vb b) (hr : roomB room = true) (hl : l.length ≤ 1000000) (hf : room - (l.length : Int) < (b.length : Int)) : Calls Try.prog 11 #[ptr p, vb] W fun e w' => e = .returned (.int .i64 4) ∧ One w w' p room l s := by
  have HO := h
  obtain ⟨v, h1, h2, h3, h4, h5⟩ := h
  refine (cAppend_no h1 h2.slb hb hr hl hf).mono ?_
  rintro e w' ⟨rfl, hB⟩
  exact ⟨rfl, HO.on hB⟩
theorem one_sync {w W : World} {p s : Nat} {room : Int} {l : List UInt8} (h : One w W p room l s) : Calls Try.prog 9 #[ptr p] W fun e w' => e = .returned (.tuple #[]) ∧ One w w' p room l l.length := by
  obtain ⟨v, h1, h2, h3, h4, h5⟩ := h
  refine (cSync h1 h2.slb).mono ?_
  rintro e w' ⟨rfl, hD, g⟩
  exact ⟨rfl, ⟨v, hD, h2.kept g (.inr (Tri.apart h1 (by decide) h2)), h3, h4.grown g h4.size (fun k hk => by injection hk with hk; omega), Nat.le_refl _⟩⟩
theorem one_crash {w W : World} {p s : Nat} {room : Int} {l : List UInt8} (h : One w W p room l s) (hl : l.length ≤ 1000000) (keep : Int) : Calls Try.prog 10 #[ptr p, .int .i64 keep] W fun e w' => e = .returned (.tuple #[]) ∧ One w w' p room (l.take (crashN l.length s keep)) (crashN l.length s keep) ∧ W.grownBy w' (some p) := by
  obtain ⟨v, h1, h2, h3, h4, h5⟩ := h
  refine (cCrash h1 h2 h5 hl keep).mono ?_
  rintro e w' ⟨rfl, ⟨v', hD, hO, _⟩, g⟩
  have := crash_le l.length s h5 keep
  exact ⟨rfl, ⟨v', hD, hO, h3, h4.grown g h4.size (fun k hk => by injection hk with hk; omega), by rw [List.length_take]; omega⟩, g⟩
theorem one_bytes {w W : World} {p s : Nat} {room : Int} {l : List UInt8} (h : One w W p room l s) (hl : l.length ≤ 1000000) : Calls Try.prog 13 #[ptr p] W fun e w' => ∃ r, e = .returned r ∧ OwnB w' W.heap.size r l ∧ Below W.heap.size W w' ∧ One w w' p room l s := by
  have HO := h
  obtain ⟨v, h1, h2, h3, h4, h5⟩ := h
  refine (cBytes h1 h2.slb hl).mono ?_
  rintro e w' ⟨r, rfl, ho, hB⟩
  exact ⟨r, rfl, ho, hB, HO.on hB⟩
theorem one_synced {w W : World} {p s : Nat} {room : Int} {l : List UInt8} (h : One w W p room l s) : Calls Try.prog 14 #[ptr p] W fun e w' => e = .returned (.int .i64 s) ∧ W = w' := by
  obtain ⟨v, h1, h2, h3, h4, h5⟩ := h
  exact cSynced h1
theorem one_left {w W : World} {p s : Nat} {room : Int} {l : List UInt8} (h : One w W p room l s) (hr : roomB room = true) (hl : l.length ≤ 1000000) : Calls Try.prog 15 #[ptr p] W fun e w' => e = .returned (.int .i64 (room - (l.length : Int))) ∧ Below W.heap.size W w' := by
  obtain ⟨v, h1, h2, h3, h4, h5⟩ := h
  exact cLeft h1 h2.slb hr hl

theorem lit_of (w : World) (l : List UInt8) (fz : Nat × Nat) (n : Nat) (hn : l.length = n) : SlB (w.alloc (.cells (octs l).toArray 5 fz)) (.slice (some ⟨w.heap.size, 0, none⟩) n n) l := by
  subst hn
  have hg : (w.alloc (.cells (octs l).toArray 5 fz)).heap[w.heap.size]? = some (.cells (octs l).toArray 5 fz) := heap_alloc_new w _
  refine ⟨w.heap.size, 0, l.length, _, rfl, (fun e => by cases e), Nat.le_refl _, fun _ => rfl, fun j x hx => ?_, fun _ => by simp⟩
  rw [Nat.zero_add, cell_of_row _ _ j _ _ fz hg]
  simp [octs, hx]
abbrev threeC : Obj := .cells #[.int .u8 97, .int .u8 98, .int .u8 99] 5 (3, 4)
abbrev fourC : Obj := .cells #[.int .u8 100, .int .u8 101, .int .u8 102, .int .u8 103] 5 (4, 5)
abbrev foreC : Obj := .cells #[.int .u8 104, .int .u8 105, .int .u8 106, .int .u8 107] 5 (4, 5)
theorem lit_three (w : World) : SlB (w.alloc threeC) (.slice (some ⟨w.heap.size, 0, none⟩) 3 3) [97, 98, 99] := lit_of w [97, 98, 99] (3, 4) 3 rfl
theorem lit_four (w : World) : SlB (w.alloc fourC) (.slice (some ⟨w.heap.size, 0, none⟩) 4 4) [100, 101, 102, 103] := lit_of w [100, 101, 102, 103] (4, 5) 4 rfl
theorem lit_fore (w : World) : SlB (w.alloc foreC) (.slice (some ⟨w.heap.size, 0, none⟩) 4 4) [104, 105, 106, 107] := lit_of w [104, 105, 106, 107] (4, 5) 4 rfl

set_option maxHeartbeats 1600000 in
set_option maxRecDepth 100000 in
theorem cAlive (w : World) : Calls Try.prog 6 #[] w fun e w' => e = .returned (.bool true) ∧ Below w.heap.size w w' := by
  have kc := fun (w : World) (C : Array Value) (n c : Nat) => Lib.run_convert_bytes_const (P := Try.prog) w 33 5 C n c Try.underlying33 Try.underlying5
  go_enter Try.func6, Try.ntmps6
  go_wp2_with fail
  go_at_call 7
  refine (one_new (Below.refl _ w) (by decide)).mono ?_
  rintro e w1 ⟨rfl, h1⟩
  obtain ⟨p, hp⟩ : ∃ p, p = w.heap.size := ⟨_, rfl⟩
  rw [← hp] at h1 ⊢
  clear hp
  have H1 := hid (h1.on ((Below.refl _ w1).alloc (Nat.le_refl _) threeC))
  have L1 := hid (lit_three w1)
  clear h1
  go_wp2_with fail
  go_at_call 11
  refine (one_append H1.out L1.out (by decide) (by decide) (by decide)).mono ?_
  rintro e w2 ⟨rfl, h2⟩
  have H2 := hid h2
  clear h2 H1 L1
  go_wp2_with fail
  go_at_call 9
  refine (one_sync H2.out).mono ?_
  rintro e w3 ⟨rfl, h3⟩
  have H3 := hid (h3.on ((Below.refl _ w3).alloc (Nat.le_refl _) fourC))
  have L3 := hid (lit_four w3)
  clear h3 H2
  go_wp2_with fail
  go_at_call 11
  refine (one_append H3.out L3.out (by decide) (by decide) (by decide)).mono ?_
  rintro e w4 ⟨rfl, h4⟩
  have H4 := hid (h4.on ((Below.refl _ w4).alloc (Nat.le_refl _) foreC))
  have L4 := hid (lit_fore w4)
  clear h4 H3 L3
  go_wp2_with fail
  go_at_call 11
  refine (one_full H4.out L4.out (by decide) (by decide) (by decide)).mono ?_
  rintro e w5 ⟨rfl, h5⟩
  have H5 := hid h5
  clear h5 H4 L4
  go_wp2_with fail
  go_at_call 10
  refine (one_crash H5.out (by decide) 2).mono ?_
  rintro e w6 ⟨rfl, h6, _⟩
  have H6 : Hid (One w w6 p 10 [97, 98, 99, 100, 101] 5) := hid h6
  clear h6 H5
  go_wp2_with fail
  go_at_call 13
  refine (one_bytes H6.out (by decide)).mono ?_
  rintro e w7 ⟨r, rfl, ho, hB7, h7⟩
  have hcr := convB ho.slb
  have H7 := hid h7
  obtain ⟨g7, c7, n7, rfl, hn7⟩ := ho.asSlice
  clear ho hB7 h7 hn7 H6
  go_wp2_with fail
  go_at_call 14
  refine (one_synced H7.out).mono ?_
  rintro e w8 ⟨rfl, rfl⟩
  go_wp2_with fail
  go_at_call 15
  refine (one_left H7.out (by decide) (by decide)).mono ?_
  rintro e w8 ⟨rfl, hB8⟩
  have H8 := hid (H7.out.below.trans (hB8.mono H7.out.below.size))
  clear hB8 hcr
  go_wp2_with fail
  go_ret
  exact ⟨rfl, H8.out⟩
end Go.Proofs.Ytiloeejpjjdaeaa
