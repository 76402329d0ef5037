/- The program's net, call by call: what is told of it, and a new one. -/
import Derived.Test.YtcfkifiejojciaaNBase
import Derived.Deep.QuietTactic
import Derived.BigQuiet
namespace Go.Proofs.Ytcfkifiejojciaa
set_option linter.unusedVariables false
open Go.RowKit
open Go.Lib (hid)

/-- A net of the program's: its room, its frames, how many were lost. -/
abbrev Nt (w : World) (p : Nat) (room : Int) (v : Value) (s : Int) : Prop := Tri 47 w p room v s
abbrev NetP (w : World) (B p : Nat) (room : Int) (v : Value) (lost : Int) (ps : Ps) : Prop := NetA 47 w B p room v lost ps

set_option maxHeartbeats 600000 in
set_option maxRecDepth 100000 in
theorem cClone {v : Value} {l : List UInt8} {w : World} (h : SlB w v l) (hl : l.length ≤ 1000000) : Calls Try.prog 23 #[v] w fun e w' => ∃ r, e = .returned r ∧ OwnB w' w.heap.size r l ∧ Below w.heap.size w w' := by
  obtain ⟨i0, hi, hz0, hz1, hz2⟩ := info_parts Try.infoB
  have hq : ∀ (w : World) (a : Option Addr) (n c n' c' : Nat), (binOp .eql 40 (.slice a n c) (.slice none n' c')).run Try.prog w = .ok (.bool a.isNone) w := fun w a n c n' c' => Lib.run_eql_slice_nil w _ _ a n c n' c' Try.underlying40
  rcases h.src with ⟨rfl, rfl⟩ | ⟨ad, cap, rfl, hc, hb⟩
  · go_enter Try.func23, Try.ntmps23
    go_wp2
    go_ret
    exact ⟨_, rfl, OwnB.nil _ _, Below.refl _ _⟩
  · have hown := OwnB.made w
    have hnew : ∀ (j : Nat) u, (octs l)[j]? = Option.some u → (w.alloc (.cells #[] 5)).cell? (ad.add j) = Option.some u := fun j u hu => by
      have h1 := hc j u hu
      have h2 := World.block_lt_of_cell? w _ h1
      exact Lib.cell?_alloc_some _ h1
    have HN := hid hnew
    clear hnew hc
    go_enter Try.func23, Try.ntmps23
    go_wp2_with (at_builtin; refine wpList_append_own _ rfl _ _ 40 rfl w.heap.size 5 i0 _ 1 1 Try.underlying40 hi hz0 hz1 hz2 rfl (by decide) _ _ _ rfl hown ad l.length cap (octs l) rfl ?c0 ?c1 ?c2 ?c3 ?c4 ?c5 ?_)
    case c0 => rw [octs_len, Nat.mul_one]
    case c1 => exact HN.out
    case c2 => exact octs_one _
    case c3 => unfold maxLen; simp only [List.length_nil]; omega
    case c4 => simp only [List.length_nil]; omega
    case c5 => simp
    intro v' w1 hown' hgrow _
    have R := OwnB.grows (a := []) ((Below.refl _ w).alloc (Nat.le_refl _) _) (by simp) (fun k hk => by cases hk; exact Nat.le_refl _) hown' (by simp) hgrow
    rw [List.nil_append] at R
    have HR := hid R
    clear hown' hgrow hown R
    go_wp2
    go_ret
    exact ⟨_, rfl, HR.out.1, HR.out.2⟩

set_option maxRecDepth 100000 in
theorem cLen0 (w : World) : Calls Try.prog 13 #[.pointer none] w fun e w' => e = .returned (.int .i64 0) ∧ w = w' := by
  go_enter Try.func13, Try.ntmps13
  go_wp2
  go_ret
  exact ⟨rfl, rfl⟩
set_option maxRecDepth 100000 in
theorem cLost0 (w : World) : Calls Try.prog 12 #[.pointer none] w fun e w' => e = .returned (.int .i64 0) ∧ w = w' := by
  go_enter Try.func12, Try.ntmps12
  go_wp2
  go_ret
  exact ⟨rfl, rfl⟩
set_option maxRecDepth 100000 in
theorem cSend0 (v : Value) (w : World) : Calls Try.prog 17 #[.pointer none, v] w fun e w' => e = .returned (.int .i64 0) ∧ w = w' := by
  go_enter Try.func17, Try.ntmps17
  go_wp2
  go_ret
  exact ⟨rfl, rfl⟩
set_option maxRecDepth 100000 in
theorem cAt0 (w : World) : Calls Try.prog 14 #[.pointer none, .int .i64 0] w fun e w' => e = .returned (.tuple #[.slice none 0 0, .bool false]) ∧ w = w' := by
  go_enter Try.func14, Try.ntmps14
  go_wp2_with (go_at_call 13; refine (cLen0 w).mono ?_; rintro e w1 ⟨rfl, rfl⟩)
  go_ret2
  exact ⟨rfl, rfl⟩
set_option maxRecDepth 100000 in
theorem cTake0 (w : World) : Calls Try.prog 15 #[.pointer none, .int .i64 0] w fun e w' => e = .returned (.tuple #[.slice none 0 0, .bool false]) ∧ w = w' := by
  go_enter Try.func15, Try.ntmps15
  go_wp2_with (go_at_call 14; refine (cAt0 w).mono ?_; rintro e w1 ⟨rfl, rfl⟩)
  go_ret2
  exact ⟨rfl, rfl⟩
set_option maxRecDepth 100000 in
theorem cDouble0 (w : World) : Calls Try.prog 16 #[.pointer none, .int .i64 0] w fun e w' => e = .returned (.bool false) ∧ w = w' := by
  go_enter Try.func16, Try.ntmps16
  go_wp2_with (go_at_call 14; refine (cAt0 w).mono ?_; rintro e w1 ⟨rfl, rfl⟩)
  go_ret
  exact ⟨rfl, rfl⟩

/-- May a net have so much room? -/
def roomB (room : Int) : Bool := decide (1 ≤ room) && decide (room ≤ 4096)
set_option maxRecDepth 100000 in
theorem rRight (room : Int) (w : World) : Calls Try.prog 8 #[.int .i64 room] w fun e w' => e = .returned (.bool (roomB room)) ∧ w = w' := by
  by_cases h0 : 1 ≤ room
  · go_enter Try.func8, Try.ntmps8
    go_wp2
    go_ret
    exact ⟨by unfold roomB; simp [h0], rfl⟩
  · have h1 : decide (1 ≤ room) = false := decide_eq_false h0
    have h2 : roomB room = false := by unfold roomB; rw [h1]; rfl
    rw [h2]
    clear h2
    go_enter Try.func8, Try.ntmps8
    go_wp2
    go_ret
    exact ⟨rfl, rfl⟩
set_option maxRecDepth 100000 in
theorem cNew_no (room : Int) (h : roomB room = false) (w : World) : Calls Try.prog 7 #[.int .i64 room] w fun e w' => e = .returned (.tuple #[.pointer none, .int .i64 1]) ∧ w = w' := by
  by_cases h0 : room < 1
  · clear h
    go_enter Try.func7, Try.ntmps7
    go_wp2
    go_ret2
    exact ⟨rfl, rfl⟩
  · have h1 : (4096 : Int) < room := by unfold roomB at h; simp at h; exact h (by omega)
    go_enter Try.func7, Try.ntmps7
    go_wp2
    go_ret2
    exact ⟨rfl, rfl⟩
set_option maxRecDepth 100000 in
theorem cNew_yes (room : Int) (h : roomB room = true) (w : World) : Calls Try.prog 7 #[.int .i64 room] w fun e w' => e = .returned (.tuple #[ptr w.heap.size, .int .i64 0]) ∧ Nt w' w.heap.size room (.slice none 0 0) 0 ∧ Below w.heap.size w w' := by
  have h0 : ¬ room < 1 := by unfold roomB at h; simp at h; omega
  have h1 : ¬ (4096 : Int) < room := by unfold roomB at h; simp at h; omega
  go_enter Try.func7, Try.ntmps7
  go_wp2
  go_ret2
  exact ⟨rfl, heap_alloc_new w _, (Below.refl _ w).alloc (Nat.le_refl _) _⟩

set_option maxRecDepth 100000 in
theorem cLost {w : World} {p : Nat} {room s : Int} {v : Value} (h : Nt w p room v s) : Calls Try.prog 12 #[ptr p] w fun e w' => e = .returned (.int .i64 s) ∧ w = w' := by
  obtain ⟨hlt, c0, c1, c2, f0, f1, f2⟩ := h.cells
  clear h
  go_enter Try.func12, Try.ntmps12
  go_wp2
  go_ret
  exact ⟨rfl, rfl⟩
set_option maxRecDepth 100000 in
theorem cLen {w : World} {p B : Nat} {room s : Int} {v : Value} {ps : Ps} (h : Nt w p room v s) (hv : Rw w B v ps) : Calls Try.prog 13 #[ptr p] w fun e w' => e = .returned (.int .i64 ps.length) ∧ w = w' := by
  obtain ⟨hlt, c0, c1, c2, f0, f1, f2⟩ := h.cells
  obtain ⟨a, cap, rfl, hcap, _⟩ := hv.any
  clear h hv hcap
  go_enter Try.func13, Try.ntmps13
  go_wp2
  go_ret
  exact ⟨rfl, rfl⟩
set_option maxHeartbeats 800000 in
set_option maxRecDepth 100000 in
theorem cLeft {w : World} {p B : Nat} {room s : Int} {v : Value} {ps : Ps} (h : Nt w p room v s) (hv : Rw w B v ps) (hr : roomB room = true) (hl : ps.length ≤ 4096) : Calls Try.prog 24 #[ptr p] w fun e w' => e = .returned (.int .i64 (room - (ps.length : Int))) ∧ Below w.heap.size w w' := by
  obtain ⟨hlt, c0, c1, c2, f0, f1, f2⟩ := h.cells
  obtain ⟨a, cap, rfl, hcap, _⟩ := hv.any
  obtain ⟨n, hn⟩ : ∃ n, n = ps.length := ⟨_, rfl⟩
  rw [← hn] at c1 hl ⊢
  unfold roomB at hr
  simp at hr
  have hw : wrap64 (room - (n : Int)) = room - (n : Int) := by unfold wrap64; omega
  clear h hv hcap hn f0 f1 f2
  go_enter Try.func24, Try.ntmps24
  go_wp2
  go_quiet (fail)
  go_wp2
  go_ret
  exact ⟨rfl, belowDrewN (Below.refl _ w) _⟩

set_option maxHeartbeats 800000 in
set_option maxRecDepth 100000 in
theorem cAt_no {w : World} {p B : Nat} {room s : Int} {v : Value} {ps : Ps} (h : Nt w p room v s) (hv : Rw w B v ps) (i : Int) (hi : i < 0 ∨ (ps.length : Int) ≤ i) : Calls Try.prog 14 #[ptr p, .int .i64 i] w fun e w' => e = .returned (.tuple #[.slice none 0 0, .bool false]) ∧ w = w' := by
  have HL := hid (cLen h hv)
  clear h hv
  by_cases h0 : i < 0
  · clear hi
    go_enter Try.func14, Try.ntmps14
    go_wp2
    go_ret2
    exact ⟨rfl, rfl⟩
  · have h1 : (ps.length : Int) ≤ i := by omega
    clear hi
    go_enter Try.func14, Try.ntmps14
    go_wp2_with (go_at_call 13; refine HL.out.mono ?_; rintro e w1 ⟨rfl, rfl⟩)
    go_ret2
    exact ⟨rfl, rfl⟩
set_option maxHeartbeats 800000 in
set_option maxRecDepth 100000 in
theorem cAt_yes {w : World} {p B : Nat} {room s : Int} {v : Value} {ps : Ps} (h : Nt w p room v s) (hv : Rw w B v ps) (i : Nat) {q : Sv × List UInt8} (hi : ps[i]? = some q) : Calls Try.prog 14 #[ptr p, .int .i64 i] w fun e w' => e = .returned (.tuple #[q.1.v, .bool true]) ∧ w = w' := by
  have HL := hid (cLen h hv)
  obtain ⟨hlt, c0, c1, c2, f0, f1, f2⟩ := h.cells
  have hil := (List.getElem?_eq_some_iff.1 hi).1
  obtain ⟨⟨sa, sn, sc⟩, l⟩ := q
  rcases hv.shape with ⟨rfl, rfl⟩ | ⟨g, cap, rfl, hn, hm, hB, hg, hc, hf⟩
  · simp at hil
  · have d0 := hc i _ hi
    dsimp only at d0 ⊢
    obtain ⟨n, hnn⟩ : ∃ n, n = ps.length := ⟨_, rfl⟩
    rw [← hnn] at c1 hil hn HL
    have h1 : ¬ (n : Int) ≤ (i : Int) := by omega
    clear h hv hc hf hi hnn hm hB
    go_enter Try.func14, Try.ntmps14
    go_wp2_with (go_at_call 13; refine HL.out.mono ?_; rintro e w1 ⟨rfl, rfl⟩)
    go_ret2
    exact ⟨rfl, rfl⟩
end Go.Proofs.Ytcfkifiejojciaa
