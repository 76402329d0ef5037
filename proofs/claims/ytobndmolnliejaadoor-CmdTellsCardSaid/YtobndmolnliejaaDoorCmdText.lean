/- The document's Text: a command's text. -/
import Derived.Test.YtobndmolnliejaaDoorCmdFig
import Derived.Lib.QuietBelow
import Derived.Outline
namespace Go.Proofs.YtobndmolnliejaaDoor
open Go.RowKit Go.Lib

theorem qFig (w1 : World) (n : Nat) (h : n ≤ 1048576) : ∀ d os, Calls Tryd.prog 26 #[.int .i64 n] (Go.Sort.grow (redrawn w1 d) os) fun e w'' => e = .returned (str (decDigits n)) ∧ ∃ p : Regrown, w'' = Go.Sort.grow (redrawn w1 p.d) p.os :=
  fun _ _ => Calls.regrown_of (rFig n (by omega) _)

set_option maxHeartbeats 800000 in
set_option maxRecDepth 100000 in
theorem rTextCancel (i s t d p q : Nat) (hi : i ≤ 1048576) (hs : s ≤ 1048576) (ht : t ≤ 1048576) (w : World) : Calls Tryd.prog 15 #[cmV i 1 s t d p q] w fun e w' => e = .returned (str (decDigits i ++ [32, 99, 97, 110, 99, 101, 108, 32] ++ decDigits s ++ [32] ++ decDigits t)) ∧ Below w.heap.size w w' := by
  have li := dec_len i 6 (by simp; omega)
  have ls := dec_len s 6 (by simp; omega)
  have lt := dec_len t 6 (by simp; omega)
  go_enter Tryd.func15, Tryd.ntmps15
  go_wp2_with (go_at_call 26; refine (rFig i (by omega) _).mono ?_; rintro e w1 ⟨rfl, hb⟩; obtain ⟨hc, hz, hB⟩ := box_cells hb; clear hb)
  have cs : ∀ dd os, (Go.Sort.grow (redrawn w1 dd) os).cell? ⟨w.heap.size, 2, none⟩ = some (.int .i64 s) := cell_regrown (hc 2)
  have qs := qFig w1 s hs
  have ct : ∀ dd os, (Go.Sort.grow (redrawn w1 dd) os).cell? ⟨w.heap.size, 3, none⟩ = some (.int .i64 t) := cell_regrown (hc 3)
  have qt := qFig w1 t ht
  have n1 : ¬ 9223372036854775807 < (decDigits i).length + 8 := by omega
  have n2 : ¬ 9223372036854775807 < (decDigits i).length + 8 + (decDigits s).length := by omega
  have n3 : ¬ 9223372036854775807 < (decDigits i).length + 8 + (decDigits s).length + 1 := by omega
  have n4 : ¬ 9223372036854775807 < (decDigits i).length + 8 + (decDigits s).length + 1 + (decDigits t).length := by omega
  clear hc
  refine wp_region_quiet_below (by kernel_rfl) (by kernel_rfl) ?_
  repeat (quiet_step (first | (with_reducible exact qs _ _) | (with_reducible exact qt _ _)))
  refine wpQuiet_nil ?_
  intro _ hw'
  obtain ⟨⟨dq, osq⟩, hw''⟩ := hw'
  subst hw''
  go_wp2
  go_ret
  refine ⟨?_, hB.trans ((below_regrown w1 dq osq).mono (Nat.le_of_lt hz))⟩
  rfl

set_option maxHeartbeats 800000 in
set_option maxRecDepth 100000 in
theorem rTextAmend (i s t d p q : Nat) (hi : i ≤ 1048576) (hs : s ≤ 1048576) (ht : t ≤ 1048576) (hq : q ≤ 1048576) (w : World) : Calls Tryd.prog 15 #[cmV i 2 s t d p q] w fun e w' => e = .returned (str (decDigits i ++ [32, 97, 109, 101, 110, 100, 32] ++ decDigits s ++ [32] ++ decDigits t ++ [32] ++ decDigits q)) ∧ Below w.heap.size w w' := by
  have li := dec_len i 6 (by simp; omega)
  have ls := dec_len s 6 (by simp; omega)
  have lt := dec_len t 6 (by simp; omega)
  have lq := dec_len q 6 (by simp; omega)
  go_enter Tryd.func15, Tryd.ntmps15
  go_wp2_with (go_at_call 26; refine (rFig i (by omega) _).mono ?_; rintro e w1 ⟨rfl, hb⟩; obtain ⟨hc, hz, hB⟩ := box_cells hb; clear hb)
  have cs : ∀ dd os, (Go.Sort.grow (redrawn w1 dd) os).cell? ⟨w.heap.size, 2, none⟩ = some (.int .i64 s) := cell_regrown (hc 2)
  have qs := qFig w1 s hs
  have ct : ∀ dd os, (Go.Sort.grow (redrawn w1 dd) os).cell? ⟨w.heap.size, 3, none⟩ = some (.int .i64 t) := cell_regrown (hc 3)
  have qt := qFig w1 t ht
  have cq : ∀ dd os, (Go.Sort.grow (redrawn w1 dd) os).cell? ⟨w.heap.size, 6, none⟩ = some (.int .i64 q) := cell_regrown (hc 6)
  have qq := qFig w1 q hq
  have n1 : ¬ 9223372036854775807 < (decDigits i).length + 7 := by omega
  have n2 : ¬ 9223372036854775807 < (decDigits i).length + 7 + (decDigits s).length := by omega
  have n3 : ¬ 9223372036854775807 < (decDigits i).length + 7 + (decDigits s).length + 1 := by omega
  have n4 : ¬ 9223372036854775807 < (decDigits i).length + 7 + (decDigits s).length + 1 + (decDigits t).length := by omega
  have n5 : ¬ 9223372036854775807 < (decDigits i).length + 7 + (decDigits s).length + 1 + (decDigits t).length + 1 := by omega
  have n6 : ¬ 9223372036854775807 < (decDigits i).length + 7 + (decDigits s).length + 1 + (decDigits t).length + 1 + (decDigits q).length := by omega
  clear hc
  refine wp_region_quiet_below (by kernel_rfl) (by kernel_rfl) ?_
  repeat (quiet_step (first | (with_reducible exact qs _ _) | (with_reducible exact qt _ _) | (with_reducible exact qq _ _)))
  refine wpQuiet_nil ?_
  intro _ hw'
  obtain ⟨⟨dq, osq⟩, hw''⟩ := hw'
  subst hw''
  go_wp2
  go_ret
  refine ⟨?_, hB.trans ((below_regrown w1 dq osq).mono (Nat.le_of_lt hz))⟩
  rfl

set_option maxHeartbeats 800000 in
set_option maxRecDepth 100000 in
theorem rTextBuy (i s t p q : Nat) (hi : i ≤ 1048576) (hs : s ≤ 1048576) (hp : p ≤ 1048576) (hq : q ≤ 1048576) (w : World) : Calls Tryd.prog 15 #[cmV i 0 s t 0 p q] w fun e w' => e = .returned (str (decDigits i ++ [32, 112, 108, 97, 99, 101, 32] ++ decDigits s ++ [32] ++ [98, 117, 121] ++ [32] ++ decDigits p ++ [32] ++ decDigits q)) ∧ Below w.heap.size w w' := by
  have li := dec_len i 6 (by simp; omega)
  have ls := dec_len s 6 (by simp; omega)
  have lp := dec_len p 6 (by simp; omega)
  have lq := dec_len q 6 (by simp; omega)
  go_enter Tryd.func15, Tryd.ntmps15
  go_wp2_with (go_at_call 26; refine (rFig i (by omega) _).mono ?_; rintro e w1 ⟨rfl, hb⟩; obtain ⟨hc, hz, hB⟩ := box_cells hb; clear hb)
  have cs : ∀ dd os, (Go.Sort.grow (redrawn w1 dd) os).cell? ⟨w.heap.size, 2, none⟩ = some (.int .i64 s) := cell_regrown (hc 2)
  have qs := qFig w1 s hs
  have cp : ∀ dd os, (Go.Sort.grow (redrawn w1 dd) os).cell? ⟨w.heap.size, 5, none⟩ = some (.int .i64 p) := cell_regrown (hc 5)
  have qp := qFig w1 p hp
  have cq : ∀ dd os, (Go.Sort.grow (redrawn w1 dd) os).cell? ⟨w.heap.size, 6, none⟩ = some (.int .i64 q) := cell_regrown (hc 6)
  have qq := qFig w1 q hq
  have n1 : ¬ 9223372036854775807 < (decDigits i).length + 7 := by omega
  have n2 : ¬ 9223372036854775807 < (decDigits i).length + 7 + (decDigits s).length := by omega
  have n3 : ¬ 9223372036854775807 < (decDigits i).length + 7 + (decDigits s).length + 1 := by omega
  have n4 : ¬ 9223372036854775807 < (decDigits i).length + 7 + (decDigits s).length + 1 + 3 := by omega
  have n5 : ¬ 9223372036854775807 < (decDigits i).length + 7 + (decDigits s).length + 1 + 3 + 1 := by omega
  have n6 : ¬ 9223372036854775807 < (decDigits i).length + 7 + (decDigits s).length + 1 + 3 + 1 + (decDigits p).length := by omega
  have n7 : ¬ 9223372036854775807 < (decDigits i).length + 7 + (decDigits s).length + 1 + 3 + 1 + (decDigits p).length + 1 := by omega
  have n8 : ¬ 9223372036854775807 < (decDigits i).length + 7 + (decDigits s).length + 1 + 3 + 1 + (decDigits p).length + 1 + (decDigits q).length := by omega
  clear hc
  refine wp_region_quiet_below (by kernel_rfl) (by kernel_rfl) ?_
  repeat (quiet_step (first | (with_reducible exact qs _ _) | (with_reducible exact qp _ _) | (with_reducible exact qq _ _)))
  refine wpQuiet_nil ?_
  intro _ hw'
  obtain ⟨⟨dq, osq⟩, hw''⟩ := hw'
  subst hw''
  go_wp2
  go_ret
  refine ⟨?_, hB.trans ((below_regrown w1 dq osq).mono (Nat.le_of_lt hz))⟩
  rfl

set_option maxHeartbeats 800000 in
set_option maxRecDepth 100000 in
theorem rTextSell (i s t p q : Nat) (hi : i ≤ 1048576) (hs : s ≤ 1048576) (hp : p ≤ 1048576) (hq : q ≤ 1048576) (w : World) : Calls Tryd.prog 15 #[cmV i 0 s t 1 p q] w fun e w' => e = .returned (str (decDigits i ++ [32, 112, 108, 97, 99, 101, 32] ++ decDigits s ++ [32] ++ [115, 101, 108, 108] ++ [32] ++ decDigits p ++ [32] ++ decDigits q)) ∧ Below w.heap.size w w' := by
  have li := dec_len i 6 (by simp; omega)
  have ls := dec_len s 6 (by simp; omega)
  have lp := dec_len p 6 (by simp; omega)
  have lq := dec_len q 6 (by simp; omega)
  go_enter Tryd.func15, Tryd.ntmps15
  go_wp2_with (go_at_call 26; refine (rFig i (by omega) _).mono ?_; rintro e w1 ⟨rfl, hb⟩; obtain ⟨hc, hz, hB⟩ := box_cells hb; clear hb)
  have cs : ∀ dd os, (Go.Sort.grow (redrawn w1 dd) os).cell? ⟨w.heap.size, 2, none⟩ = some (.int .i64 s) := cell_regrown (hc 2)
  have qs := qFig w1 s hs
  have cp : ∀ dd os, (Go.Sort.grow (redrawn w1 dd) os).cell? ⟨w.heap.size, 5, none⟩ = some (.int .i64 p) := cell_regrown (hc 5)
  have qp := qFig w1 p hp
  have cq : ∀ dd os, (Go.Sort.grow (redrawn w1 dd) os).cell? ⟨w.heap.size, 6, none⟩ = some (.int .i64 q) := cell_regrown (hc 6)
  have qq := qFig w1 q hq
  have n1 : ¬ 9223372036854775807 < (decDigits i).length + 7 := by omega
  have n2 : ¬ 9223372036854775807 < (decDigits i).length + 7 + (decDigits s).length := by omega
  have n3 : ¬ 9223372036854775807 < (decDigits i).length + 7 + (decDigits s).length + 1 := by omega
  have n4 : ¬ 9223372036854775807 < (decDigits i).length + 7 + (decDigits s).length + 1 + 4 := by omega
  have n5 : ¬ 9223372036854775807 < (decDigits i).length + 7 + (decDigits s).length + 1 + 4 + 1 := by omega
  have n6 : ¬ 9223372036854775807 < (decDigits i).length + 7 + (decDigits s).length + 1 + 4 + 1 + (decDigits p).length := by omega
  have n7 : ¬ 9223372036854775807 < (decDigits i).length + 7 + (decDigits s).length + 1 + 4 + 1 + (decDigits p).length + 1 := by omega
  have n8 : ¬ 9223372036854775807 < (decDigits i).length + 7 + (decDigits s).length + 1 + 4 + 1 + (decDigits p).length + 1 + (decDigits q).length := by omega
  clear hc
  refine wp_region_quiet_below (by kernel_rfl) (by kernel_rfl) ?_
  repeat (quiet_step (first | (with_reducible exact qs _ _) | (with_reducible exact qp _ _) | (with_reducible exact qq _ _)))
  refine wpQuiet_nil ?_
  intro _ hw'
  obtain ⟨⟨dq, osq⟩, hw''⟩ := hw'
  subst hw''
  go_wp2
  go_ret
  refine ⟨?_, hB.trans ((below_regrown w1 dq osq).mono (Nat.le_of_lt hz))⟩
  rfl

theorem oneB_ok (c : Cm) : oneB c.i c.k c.s c.t c.d c.p c.q = c.ok := rfl
theorem text_place (c : Cm) (h : c.k = 0) : c.text = fig c.i ++ [32, 112, 108, 97, 99, 101, 32] ++ fig c.s ++ [32] ++ sideWd c.d ++ [32] ++ fig c.p ++ [32] ++ fig c.q := by
  simp [Cm.text, Cm.words, h, join_cons, joinTail, wPlace]
theorem text_cancel (c : Cm) (h : c.k = 1) : c.text = fig c.i ++ [32, 99, 97, 110, 99, 101, 108, 32] ++ fig c.s ++ [32] ++ fig c.t := by
  simp [Cm.text, Cm.words, h, join_cons, joinTail, wCancel]
theorem text_amend (c : Cm) (h : c.k = 2) : c.text = fig c.i ++ [32, 97, 109, 101, 110, 100, 32] ++ fig c.s ++ [32] ++ fig c.t ++ [32] ++ fig c.q := by
  simp [Cm.text, Cm.words, h, join_cons, joinTail, wAmend]
/-- The bounds of what may be. -/
theorem ok_all {c : Cm} (h : c.ok = true) : (0 ≤ c.i ∧ c.i ≤ 1048576) ∧ (0 ≤ c.s ∧ c.s ≤ 1048576) ∧
    ((c.k = 0 ∧ c.t = 0 ∧ (c.d = 0 ∨ c.d = 1) ∧ (0 ≤ c.p ∧ c.p ≤ 1048576) ∧ (0 ≤ c.q ∧ c.q ≤ 1048576)) ∨ (c.k = 1 ∧ (0 ≤ c.t ∧ c.t ≤ 1048576) ∧ c.d = 0 ∧ c.p = 0 ∧ c.q = 0) ∨
      (c.k = 2 ∧ (0 ≤ c.t ∧ c.t ≤ 1048576) ∧ c.d = 0 ∧ c.p = 0 ∧ (0 ≤ c.q ∧ c.q ≤ 1048576))) := by
  obtain ⟨i, k, s, t, d, p, q⟩ := c
  unfold Cm.ok at h
  simp only [Bool.and_eq_true] at h
  obtain ⟨⟨hi, hs⟩, hr⟩ := h
  have hs' := betw_bd hs
  refine ⟨name_bd hi, by simp only; omega, ?_⟩
  by_cases k0 : k = 0
  · simp [k0] at hr
    have h1 := betw_bd hr.1.1.2
    exact Or.inl ⟨k0, hr.1.1.1, by simp only; omega, betw_bd hr.1.2, betw_bd hr.2⟩
  by_cases k1 : k = 1
  · simp [k1] at hr
    have h1 := betw_bd hr.1.1.2
    have h2 := betw_bd hr.1.2
    have h3 := betw_bd hr.2
    exact Or.inr (Or.inl ⟨k1, name_bd hr.1.1.1, by simp only; omega, by simp only; omega, by simp only; omega⟩)
  by_cases k2 : k = 2
  · simp [k2] at hr
    have h1 := betw_bd hr.1.1.2
    have h2 := betw_bd hr.1.2
    exact Or.inr (Or.inr ⟨k2, name_bd hr.1.1.1, by simp only; omega, by simp only; omega, betw_bd hr.2⟩)
  · simp [k0, k1, k2] at hr

theorem rText (c : Cm) (h : c.ok = true) (w : World) : Calls Tryd.prog 15 #[cmV c.i c.k c.s c.t c.d c.p c.q] w fun e w' => e = .returned (str c.text) ∧ Below w.heap.size w w' := by
  obtain ⟨⟨i0, i1⟩, ⟨s0, s1⟩, hr⟩ := ok_all h
  have ei : c.i = ((c.i.toNat : Nat) : Int) := by omega
  have es : c.s = ((c.s.toNat : Nat) : Int) := by omega
  rcases hr with ⟨hk, ht, hd, ⟨p0, p1⟩, ⟨q0, q1⟩⟩ | ⟨hk, ⟨t0, t1⟩, hd, hp, hq⟩ | ⟨hk, ⟨t0, t1⟩, hd, hp, ⟨q0, q1⟩⟩
  · have ep : c.p = ((c.p.toNat : Nat) : Int) := by omega
    have eq : c.q = ((c.q.toNat : Nat) : Int) := by omega
    rw [text_place c hk]
    rcases hd with hd | hd
    · have := rTextBuy c.i.toNat c.s.toNat 0 c.p.toNat c.q.toNat (by omega) (by omega) (by omega) (by omega) w
      rw [← ei, ← es, ← ep, ← eq] at this
      rw [hk, ht, hd]
      exact this
    · have := rTextSell c.i.toNat c.s.toNat 0 c.p.toNat c.q.toNat (by omega) (by omega) (by omega) (by omega) w
      rw [← ei, ← es, ← ep, ← eq] at this
      rw [hk, ht, hd]
      exact this
  · have et : c.t = ((c.t.toNat : Nat) : Int) := by omega
    have := rTextCancel c.i.toNat c.s.toNat c.t.toNat 0 0 0 (by omega) (by omega) (by omega) w
    rw [← ei, ← es, ← et] at this
    rw [text_cancel c hk, hk, hd, hp, hq]
    exact this
  · have et : c.t = ((c.t.toNat : Nat) : Int) := by omega
    have eq : c.q = ((c.q.toNat : Nat) : Int) := by omega
    have := rTextAmend c.i.toNat c.s.toNat c.t.toNat 0 0 c.q.toNat (by omega) (by omega) (by omega) (by omega) w
    rw [← ei, ← es, ← et, ← eq] at this
    rw [text_amend c hk, hk, hd, hp]
    exact this
end Go.Proofs.YtobndmolnliejaaDoor
