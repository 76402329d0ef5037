/- The program's market: a symbol's place, Turnover, Average, Orders. -/
import Derived.Test.YtdgllpfccdbdnaaKMcl
import Derived.Test.YtdgllpfccdbdnaaBSame
namespace Go.Proofs.Ytdgllpfccdbdnaa
set_option linter.unusedVariables false
set_option linter.unusedSimpArgs false
open Go.RowKit
open Go.Lib (hid)

abbrev plB (q : Nat) (P : Pl) (b : Bool) : Value := .tuple #[plV q P, .bool b]
abbrev noP : Value := .tuple #[.agg #[.pointer none, .complex .f64 0 0], .bool false]
theorem stX (x y : Nat) (W : World) (ad : Addr) (m : Mode) : (store ad (.complex .f64 x y) m).run Try.prog W = stored Try.prog W ad (.complex .f64 x y) m := run_store _ W ad _ m rfl
abbrev mkV (v : Option Nat) : Value := .pointer (v.map fun m => ⟨m, 0, none⟩)
/-- No such place. -/
def Off (v : Option Nat) (s : Int) : Prop := v = none ∨ s < 0 ∨ 4 ≤ s
set_option maxHeartbeats 1600000 in
set_option maxRecDepth 100000 in
theorem cAt {w : World} {m : Nat} {q : Nat → Nat} {P : Nat → Pl} (h : Mk w m q P) (s : Nat) (hs : s < 4) : Calls Try.prog 29 #[ptr m, .int .i64 s] w fun e w' => e = .returned (plB (q s) (P s) true) ∧ Below w.heap.size w w' := by
  obtain ⟨hm, ⟨g0, g1, g2, g3, g4, g5, g6, g7⟩, _⟩ := MkO.cells h.ob
  have hst := stX
  have hne : ¬ m = w.heap.size := by omega
  clear h
  simp only at g0 g1 g2 g3 g4 g5 g6 g7
  obtain rfl | rfl | rfl | rfl : s = 0 ∨ s = 1 ∨ s = 2 ∨ s = 3 := by omega
  all_goals (
    go_enter Try.func29, Try.ntmps29
    go_wp2_with fail
    refine bodyPost_ret (v := plB _ _ true) (by simp [results, Try.results29, go_sem]) rfl ⟨rfl, ?_⟩
    exact (Below.refl _ w).alloc (Nat.le_refl _) _)
set_option maxHeartbeats 1600000 in
set_option maxRecDepth 100000 in
theorem cAt_off {w : World} {v : Option Nat} {s : Int} (h : Off v s) : Calls Try.prog 29 #[mkV v, .int .i64 s] w fun e w' => e = .returned noP ∧ Below w.heap.size w w' := by
  have hst := stX
  unfold mkV
  rcases v with _ | m
  · clear h
    simp only [Option.map_none]
    go_enter Try.func29, Try.ntmps29
    go_wp2_with fail
    refine bodyPost_ret (v := noP) (by simp [results, Try.results29, go_sem]) rfl ⟨rfl, ?_⟩
    exact (Below.refl _ w).alloc (Nat.le_refl _) _
  · simp only [Option.map_some]
    by_cases h0 : s < 0
    · go_enter Try.func29, Try.ntmps29
      go_wp2_with fail
      refine bodyPost_ret (v := noP) (by simp [results, Try.results29, go_sem]) rfl ⟨rfl, ?_⟩
      exact (Below.refl _ w).alloc (Nat.le_refl _) _
    · have h4 : 4 ≤ s := by rcases h with h | h | h; cases h; omega; exact h
      clear h
      go_enter Try.func29, Try.ntmps29
      go_wp2_with fail
      refine bodyPost_ret (v := noP) (by simp [results, Try.results29, go_sem]) rfl ⟨rfl, ?_⟩
      exact (Below.refl _ w).alloc (Nat.le_refl _) _

abbrev twoV (a b : Int) : Value := .tuple #[.int .i64 a, .int .i64 b]
set_option maxHeartbeats 1600000 in
set_option maxRecDepth 100000 in
theorem cTurnover {w : World} {m : Nat} {q : Nat → Nat} {P : Nat → Pl} (h : Mk w m q P) (s : Nat) (hs : s < 4) (hP : PlOk (P s)) : Calls Try.prog 13 #[ptr m, .int .i64 s] w fun e w' => e = .returned (twoV (P s).vol (P s).val) ∧ Below w.heap.size w w' := by
  have HA := hid (cAt h s hs)
  have c1 := run_toI (a := (P s).vol) (by have := hP.2.1; omega)
  have c2 := run_toI (a := (P s).val) (by have := hP.2.2; omega)
  have hst := stX
  clear h hP
  go_enter Try.func13, Try.ntmps13
  go_wp2_with fail
  go_at_call 29
  refine HA.out.mono ?_
  rintro e w1 ⟨rfl, hB⟩
  have HB := hid (hB.trans ((Below.refl w1.heap.size w1).mono hB.size))
  clear hB
  go_wp2_with fail
  go_quiet (fail)
  all_goals (
    go_wp2_with fail
    refine bodyPost_ret (v := twoV (P s).vol (P s).val) (by simp [results, Try.results13, go_sem]) rfl ⟨rfl, ?_⟩
    exact belowDrewN (HB.out.alloc HB.out.size _) _)
set_option maxHeartbeats 1600000 in
set_option maxRecDepth 100000 in
theorem cTurnover_off {w : World} {v : Option Nat} {s : Int} (h : Off v s) : Calls Try.prog 13 #[mkV v, .int .i64 s] w fun e w' => e = .returned (twoV 0 0) ∧ Below w.heap.size w w' := by
  have HA := hid (cAt_off (w := w) h)
  have hst := stX
  clear h
  go_enter Try.func13, Try.ntmps13
  go_wp2_with fail
  go_at_call 29
  refine HA.out.mono ?_
  rintro e w1 ⟨rfl, hB⟩
  have HB := hid hB
  clear hB
  go_wp2_with fail
  refine bodyPost_ret (v := twoV 0 0) (by simp [results, Try.results13, go_sem]) rfl ⟨rfl, ?_⟩
  exact HB.out.alloc HB.out.size _

set_option maxHeartbeats 1600000 in
set_option maxRecDepth 100000 in
theorem cAverage_off {w : World} {v : Option Nat} {s : Int} (h : Off v s) : Calls Try.prog 14 #[mkV v, .int .i64 s] w fun e w' => e = .returned (twoV 0 0) ∧ Below w.heap.size w w' := by
  have HA := hid (cTurnover_off (w := w) h)
  clear h
  go_enter Try.func14, Try.ntmps14
  go_wp2_with fail
  go_at_call 13
  refine HA.out.mono ?_
  rintro e w1 ⟨rfl, hB⟩
  have HB := hid hB
  clear hB
  go_wp2_with fail
  refine bodyPost_ret (v := twoV 0 0) (by simp [results, Try.results14, go_sem]) rfl ⟨rfl, ?_⟩
  exact HB.out
/-- For how much one was, and what is left over. -/
def avgF (a b : Nat) : Int × Int := if a = 0 then (0, 0) else ((b : Int) / (a : Int), (b : Int) % (a : Int))
set_option maxHeartbeats 1600000 in
set_option maxRecDepth 100000 in
theorem cAverage {w : World} {m : Nat} {q : Nat → Nat} {P : Nat → Pl} (h : Mk w m q P) (s : Nat) (hs : s < 4) (hP : PlOk (P s)) : Calls Try.prog 14 #[ptr m, .int .i64 s] w fun e w' => e = .returned (twoV (avgF (P s).vol (P s).val).1 (avgF (P s).vol (P s).val).2) ∧ Below w.heap.size w w' := by
  have HA := hid (cTurnover h s hs hP)
  obtain ⟨a, ha⟩ : ∃ a, a = (P s).vol := ⟨_, rfl⟩
  obtain ⟨b, hb⟩ : ∃ b, b = (P s).val := ⟨_, rfl⟩
  rw [← ha, ← hb] at HA ⊢
  have h1 := hP.2.1
  have h2 := hP.2.2
  rw [← ha] at h1
  rw [← hb] at h2
  clear h hP ha hb
  by_cases h0 : a = 0
  · subst h0
    go_enter Try.func14, Try.ntmps14
    go_wp2_with fail
    go_at_call 13
    refine HA.out.mono ?_
    rintro e w1 ⟨rfl, hB⟩
    have HB := hid hB
    clear hB
    go_wp2_with fail
    refine bodyPost_ret (v := twoV 0 0) (by simp [results, Try.results14, go_sem]) rfl ⟨rfl, ?_⟩
    exact HB.out
  · have hz : ¬ (a : Int) = 0 := by omega
    have hd0 : 0 ≤ (b : Int) / (a : Int) := Int.ediv_nonneg (by omega) (by omega)
    have hd1 : (b : Int) / (a : Int) ≤ b := Int.ediv_le_self _ (by omega)
    have HWR : Hid (wrap64 ((b : Int) / (a : Int)) = (b : Int) / (a : Int)) := hid (by generalize (b : Int) / (a : Int) = x at hd0 hd1 ⊢; unfold wrap64; omega)
    clear hd0 hd1
    go_enter Try.func14, Try.ntmps14
    go_wp2_with fail
    go_at_call 13
    refine HA.out.mono ?_
    rintro e w1 ⟨rfl, hB⟩
    have HB := hid hB
    clear hB
    go_wp2_with fail
    go_quiet (fail)
    all_goals (
      go_wp2_with fail
      refine bodyPost_ret (v := twoV (avgF a b).1 (avgF a b).2) (by simp [results, Try.results14, go_sem, avgF, h0, HWR.out]) rfl ⟨rfl, ?_⟩
      exact belowDrewN HB.out _)

set_option maxHeartbeats 1600000 in
set_option maxRecDepth 100000 in
theorem cMOrders0 {w : World} {m : Nat} {q : Nat → Nat} {P : Nat → Pl} (h : Mk w m q P) (s : Nat) (hs : s < 4) (hP : PlOk (P s)) : Calls Try.prog 15 #[ptr m, .int .i64 s, .int .i64 0] w fun e w' => ∃ r, e = .returned r ∧ OwnO w' w.heap.size r (P s).bs ∧ Below w.heap.size w w' := by
  have HA := hid (cAt h s hs)
  have HQ := hid (h.at' s hs)
  have HF := hid hP.1
  have hst := stX
  clear h hP
  go_enter Try.func15, Try.ntmps15
  go_wp2_with fail
  go_at_call 29
  refine HA.out.mono ?_
  rintro e w1 ⟨rfl, hB⟩
  have HB := hid hB
  clear hB
  go_wp2_with fail
  go_at_call 30
  generalize hW : w1.alloc _ = W
  have hBW : Below w.heap.size w W := by rw [← hW]; exact HB.out.alloc HB.out.size _
  obtain ⟨va, vb, hK⟩ := HQ.out.on hBW
  refine (cOrders0 hK HF.out.lens).mono ?_
  rintro e w2 ⟨r, rfl, hO, hB2⟩
  have HX := hid (And.intro (hO.mono hBW.size) (hBW.trans (hB2.mono hBW.size)))
  clear hO hB2 hK hBW hW
  go_wp2_with fail
  go_ret
  exact ⟨_, rfl, HX.out.1, HX.out.2⟩
set_option maxHeartbeats 1600000 in
set_option maxRecDepth 100000 in
theorem cMOrders1 {w : World} {m : Nat} {q : Nat → Nat} {P : Nat → Pl} (h : Mk w m q P) (s : Nat) (hs : s < 4) (hP : PlOk (P s)) : Calls Try.prog 15 #[ptr m, .int .i64 s, .int .i64 1] w fun e w' => ∃ r, e = .returned r ∧ OwnO w' w.heap.size r (P s).ss ∧ Below w.heap.size w w' := by
  have HA := hid (cAt h s hs)
  have HQ := hid (h.at' s hs)
  have HF := hid hP.1
  have hst := stX
  clear h hP
  go_enter Try.func15, Try.ntmps15
  go_wp2_with fail
  go_at_call 29
  refine HA.out.mono ?_
  rintro e w1 ⟨rfl, hB⟩
  have HB := hid hB
  clear hB
  go_wp2_with fail
  go_at_call 30
  generalize hW : w1.alloc _ = W
  have hBW : Below w.heap.size w W := by rw [← hW]; exact HB.out.alloc HB.out.size _
  obtain ⟨va, vb, hK⟩ := HQ.out.on hBW
  refine (cOrders1 hK HF.out.lens).mono ?_
  rintro e w2 ⟨r, rfl, hO, hB2⟩
  have HX := hid (And.intro (hO.mono hBW.size) (hBW.trans (hB2.mono hBW.size)))
  clear hO hB2 hK hBW hW
  go_wp2_with fail
  go_ret
  exact ⟨_, rfl, HX.out.1, HX.out.2⟩
set_option maxHeartbeats 1600000 in
set_option maxRecDepth 100000 in
theorem cMOrders_off {w : World} {v : Option Nat} {s d : Int} (h : Off v s) : Calls Try.prog 15 #[mkV v, .int .i64 s, .int .i64 d] w fun e w' => e = .returned (.slice none 0 0) ∧ Below w.heap.size w w' := by
  have HA := hid (cAt_off (w := w) h)
  have hst := stX
  clear h
  go_enter Try.func15, Try.ntmps15
  go_wp2_with fail
  go_at_call 29
  refine HA.out.mono ?_
  rintro e w1 ⟨rfl, hB⟩
  have HB := hid hB
  clear hB
  go_wp2_with fail
  go_ret
  exact ⟨rfl, HB.out.alloc HB.out.size _⟩
end Go.Proofs.Ytdgllpfccdbdnaa
