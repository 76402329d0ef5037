/- The walk of the law CmdTells: whatever the commands and the numbers, it returns true. The first number is too great, or the second below zero. -/
import Derived.Test.YtobndmolnliejaaDoorCmdTells
import Derived.Lib.QuietBelow
import Derived.Outline
namespace Go.Proofs.YtobndmolnliejaaDoor
open Go.RowKit Go.Lib

set_option maxHeartbeats 4000000 in
set_option maxRecDepth 100000 in
theorem wTells_no2t (b o cap : Nat) (a : Option Addr) (cs : List C7) (ha : 0 < cs.length → a = some ⟨b, o, none⟩) (hn : ¬ 200 < cs.length) (s h : Int) (h1 : 256 < s) (hm : namedB s = true) (w : World) (ok : Okw w) (hC : CmsAt w b o cs) (hb : 0 < cs.length → b < w.heap.size) :
    Calls Tryd.prog 3 #[.slice a cs.length cap, .int .i64 s, .int .i64 h] w fun e w' => e = .returned (.bool true) ∧ Below w.heap.size w w' := by
  obtain ⟨e1, e2⟩ := no_name s h (by omega)
  have hN := fun W => cName s h W
  rw [e1, e2] at hN
  clear e1 e2
  have hM := fun W => rNamed s W
  rw [hm] at hM
  clear hm
  go_enter Tryd.func3, Tryd.ntmps3
  go_wp2_with (first
    | (go_at_call 6; refine (hN _).mono ?_; rintro e w' ⟨rfl, rfl⟩)
    | (go_at_call 9; refine (hM _).mono ?_; rintro e w' ⟨rfl, rfl⟩))
  clear hN hM
  go_loopw [11] (fun i wr => ∃ j : Nat, j ≤ cs.length ∧ i = .int .i64 ((j : Int) + 1) ∧ Below w.heap.size w wr) (fun i _ => cs.length - (RowKit.intOf i).toNat)
  case atStart => exact ⟨0, Nat.zero_le _, rfl, Below.refl _ _⟩
  case round =>
    obtain ⟨j, hj, rfl, hB⟩ := hrel
    by_cases hlt : j + 1 < cs.length
    · obtain rfl := ha (by omega)
      obtain ⟨⟨xi, xk, xs, xt, xd, xp, xq⟩, hx⟩ : ∃ c, cs[j]? = some c := ⟨cs[j], List.getElem?_eq_getElem (by omega)⟩
      obtain ⟨⟨yi, yk, ys, yt, yd, yp, yq⟩, hy⟩ : ∃ c, cs[j + 1]? = some c := ⟨cs[j + 1], List.getElem?_eq_getElem hlt⟩
      have hbw := hb (by omega)
      have hbr : b < wr.heap.size := Nat.lt_of_lt_of_le hbw hB.size
      have hbn : b ≠ wr.heap.size := Nat.ne_of_lt hbr
      have hC1 := hC.on hB hbw
      obtain ⟨x0, x1, x2, x3, x4, x5, x6⟩ := hC1.at hx
      obtain ⟨y0, y1, y2, y3, y4, y5, y6⟩ := hC1.at hy
      clear hx hy hC1
      go_wp2_with fail
      clear x0 x1 x2 x3 x4 x5 x6 y0 y1 y2 y3 y4 y5 y6
      obtain ⟨W, hA, hD, hW, hBW⟩ : ∃ W : World, W.heap[wr.heap.size]? = some (.cells (cmCells xi xk xs xt xd xp xq) 32 (0, 0)) ∧ W.heap[wr.heap.size + 1]? = some (.cells (cmCells yi yk ys yt yd yp yq) 32 (0, 0)) ∧ (wr.alloc (.cells (cmCells xi xk xs xt xd xp xq) 32)).alloc (.cells (cmCells yi yk ys yt yd yp yq) 32) = W ∧ Below w.heap.size w W :=
        ⟨_, carryA (ha_new _ _ _ rfl), ha_new _ _ _ (by simp), rfl, (hB.alloc hB.size _).alloc (hB.alloc hB.size _).size _⟩
      rw [hW]
      clear hW hB hbr hbn hbw
      have a0 : ∀ d os, (Go.Sort.grow (redrawn W d) os).cell? ⟨wr.heap.size, 0, none⟩ = some (.int .i64 xi) := cell_regrown ((cells_at hA).1 0)
      have a1 : ∀ d os, (Go.Sort.grow (redrawn W d) os).cell? ⟨wr.heap.size, 1, none⟩ = some (.int .i64 xk) := cell_regrown ((cells_at hA).1 1)
      have a2 : ∀ d os, (Go.Sort.grow (redrawn W d) os).cell? ⟨wr.heap.size, 2, none⟩ = some (.int .i64 xs) := cell_regrown ((cells_at hA).1 2)
      have a3 : ∀ d os, (Go.Sort.grow (redrawn W d) os).cell? ⟨wr.heap.size, 3, none⟩ = some (.int .i64 xt) := cell_regrown ((cells_at hA).1 3)
      have a4 : ∀ d os, (Go.Sort.grow (redrawn W d) os).cell? ⟨wr.heap.size, 4, none⟩ = some (.int .i64 xd) := cell_regrown ((cells_at hA).1 4)
      have a5 : ∀ d os, (Go.Sort.grow (redrawn W d) os).cell? ⟨wr.heap.size, 5, none⟩ = some (.int .i64 xp) := cell_regrown ((cells_at hA).1 5)
      have a6 : ∀ d os, (Go.Sort.grow (redrawn W d) os).cell? ⟨wr.heap.size, 6, none⟩ = some (.int .i64 xq) := cell_regrown ((cells_at hA).1 6)
      have b0 : ∀ d os, (Go.Sort.grow (redrawn W d) os).cell? ⟨wr.heap.size + 1, 0, none⟩ = some (.int .i64 yi) := cell_regrown ((cells_at hD).1 0)
      have b1 : ∀ d os, (Go.Sort.grow (redrawn W d) os).cell? ⟨wr.heap.size + 1, 1, none⟩ = some (.int .i64 yk) := cell_regrown ((cells_at hD).1 1)
      have b2 : ∀ d os, (Go.Sort.grow (redrawn W d) os).cell? ⟨wr.heap.size + 1, 2, none⟩ = some (.int .i64 ys) := cell_regrown ((cells_at hD).1 2)
      have b3 : ∀ d os, (Go.Sort.grow (redrawn W d) os).cell? ⟨wr.heap.size + 1, 3, none⟩ = some (.int .i64 yt) := cell_regrown ((cells_at hD).1 3)
      have b4 : ∀ d os, (Go.Sort.grow (redrawn W d) os).cell? ⟨wr.heap.size + 1, 4, none⟩ = some (.int .i64 yd) := cell_regrown ((cells_at hD).1 4)
      have b5 : ∀ d os, (Go.Sort.grow (redrawn W d) os).cell? ⟨wr.heap.size + 1, 5, none⟩ = some (.int .i64 yp) := cell_regrown ((cells_at hD).1 5)
      have b6 : ∀ d os, (Go.Sort.grow (redrawn W d) os).cell? ⟨wr.heap.size + 1, 6, none⟩ = some (.int .i64 yq) := cell_regrown ((cells_at hD).1 6)
      clear hA hD
      have hq := qConf W ⟨xi, xk, xs, xt, xd, xp, xq⟩ ⟨yi, yk, ys, yt, yd, yp, yq⟩
      dsimp only at hq
      by_cases hs : xs = ys
      · subst hs
        by_cases hi : xi = yi
        · subst hi
          have hq := hq false (by simp)
          refine wp_region_quiet_below (by kernel_rfl) (by kernel_rfl) ?_
          repeat (quiet_step (with_reducible exact hq _ _))
          refine wpQuiet_nil ?_
          intro _ hw'
          obtain ⟨⟨dq, osq⟩, hw''⟩ := hw'
          subst hw''
          go_wp2
          go_roundw
          case rel => exact ⟨j + 1, by omega, by go_num, hBW.trans ((below_regrown W dq osq).mono hBW.size)⟩
          case measure => simp [RowKit.intOf]; omega
        · have e1 : (xi != yi) = true := by simpa using hi
          have hq := hq true (by simpa using hi)
          clear hi
          refine wp_region_quiet_below (by kernel_rfl) (by kernel_rfl) ?_
          repeat (quiet_step (with_reducible exact hq _ _))
          refine wpQuiet_nil ?_
          intro _ hw'
          obtain ⟨⟨dq, osq⟩, hw''⟩ := hw'
          subst hw''
          go_wp2
          go_roundw
          case rel => exact ⟨j + 1, by omega, by go_num, hBW.trans ((below_regrown W dq osq).mono hBW.size)⟩
          case measure => simp [RowKit.intOf]; omega
      · have e1 : (xs == ys) = false := by simpa using hs
        have hq := hq false (by simp [e1])
        clear hs
        refine wp_region_quiet_below (by kernel_rfl) (by kernel_rfl) ?_
        repeat (quiet_step (with_reducible exact hq _ _))
        refine wpQuiet_nil ?_
        intro _ hw'
        obtain ⟨⟨dq, osq⟩, hw''⟩ := hw'
        subst hw''
        go_wp2
        go_roundw
        case rel => exact ⟨j + 1, by omega, by go_num, hBW.trans ((below_regrown W dq osq).mono hBW.size)⟩
        case measure => simp [RowKit.intOf]; omega
    · rcases hv : cs.all C7.ok with _ | _
      all_goals
        have hR := pRight b o cap a cs ha (by omega) _ hv w hC hb
        have hR' := prRight b o cap a cs ha (by omega) _ hv w hC hb
        have hL := pAlive w ok
        clear hv hC hb ok
        go_wp2_with (first
          | (go_at_call 5; refine (hL _ hB).mono ?_; rintro e w1 ⟨rfl, hb1⟩)
          | (go_at_call 11; refine (hR _ hb1).mono ?_; rintro e w2 ⟨rfl, hb2⟩)
          | (go_at_call 12; refine (hR' _ hb2).mono ?_; rintro e w3 ⟨rfl, hb3⟩))
        go_ret
        exact ⟨rfl, hb3⟩

set_option maxHeartbeats 4000000 in
set_option maxRecDepth 100000 in
theorem wTells_no2f (b o cap : Nat) (a : Option Addr) (cs : List C7) (ha : 0 < cs.length → a = some ⟨b, o, none⟩) (hn : ¬ 200 < cs.length) (s h : Int) (h1 : 256 < s) (hm : namedB s = false) (w : World) (ok : Okw w) (hC : CmsAt w b o cs) (hb : 0 < cs.length → b < w.heap.size) :
    Calls Tryd.prog 3 #[.slice a cs.length cap, .int .i64 s, .int .i64 h] w fun e w' => e = .returned (.bool true) ∧ Below w.heap.size w w' := by
  obtain ⟨e1, e2⟩ := no_name s h (by omega)
  have hN := fun W => cName s h W
  rw [e1, e2] at hN
  clear e1 e2
  obtain ⟨e5, e6⟩ := not_named s hm
  have hM := fun W => rNamed s W
  rw [hm] at hM
  clear hm
  have hS := fun W => cSeq s W
  rw [e5] at hS
  have hT := fun W => cHome s W
  rw [e6] at hT
  clear e5 e6
  go_enter Tryd.func3, Tryd.ntmps3
  go_wp2_with (first
    | (go_at_call 6; refine (hN _).mono ?_; rintro e w' ⟨rfl, rfl⟩)
    | (go_at_call 9; refine (hM _).mono ?_; rintro e w' ⟨rfl, rfl⟩)
    | (go_at_call 7; (with_reducible refine (hS _).mono ?_); rintro e w' ⟨rfl, rfl⟩)
    | (go_at_call 8; (with_reducible refine (hT _).mono ?_); rintro e w' ⟨rfl, rfl⟩))
  clear hN hM hS hT
  go_loopw [11] (fun i wr => ∃ j : Nat, j ≤ cs.length ∧ i = .int .i64 ((j : Int) + 1) ∧ Below w.heap.size w wr) (fun i _ => cs.length - (RowKit.intOf i).toNat)
  case atStart => exact ⟨0, Nat.zero_le _, rfl, Below.refl _ _⟩
  case round =>
    obtain ⟨j, hj, rfl, hB⟩ := hrel
    by_cases hlt : j + 1 < cs.length
    · obtain rfl := ha (by omega)
      obtain ⟨⟨xi, xk, xs, xt, xd, xp, xq⟩, hx⟩ : ∃ c, cs[j]? = some c := ⟨cs[j], List.getElem?_eq_getElem (by omega)⟩
      obtain ⟨⟨yi, yk, ys, yt, yd, yp, yq⟩, hy⟩ : ∃ c, cs[j + 1]? = some c := ⟨cs[j + 1], List.getElem?_eq_getElem hlt⟩
      have hbw := hb (by omega)
      have hbr : b < wr.heap.size := Nat.lt_of_lt_of_le hbw hB.size
      have hbn : b ≠ wr.heap.size := Nat.ne_of_lt hbr
      have hC1 := hC.on hB hbw
      obtain ⟨x0, x1, x2, x3, x4, x5, x6⟩ := hC1.at hx
      obtain ⟨y0, y1, y2, y3, y4, y5, y6⟩ := hC1.at hy
      clear hx hy hC1
      go_wp2_with fail
      clear x0 x1 x2 x3 x4 x5 x6 y0 y1 y2 y3 y4 y5 y6
      obtain ⟨W, hA, hD, hW, hBW⟩ : ∃ W : World, W.heap[wr.heap.size]? = some (.cells (cmCells xi xk xs xt xd xp xq) 32 (0, 0)) ∧ W.heap[wr.heap.size + 1]? = some (.cells (cmCells yi yk ys yt yd yp yq) 32 (0, 0)) ∧ (wr.alloc (.cells (cmCells xi xk xs xt xd xp xq) 32)).alloc (.cells (cmCells yi yk ys yt yd yp yq) 32) = W ∧ Below w.heap.size w W :=
        ⟨_, carryA (ha_new _ _ _ rfl), ha_new _ _ _ (by simp), rfl, (hB.alloc hB.size _).alloc (hB.alloc hB.size _).size _⟩
      rw [hW]
      clear hW hB hbr hbn hbw
      have a0 : ∀ d os, (Go.Sort.grow (redrawn W d) os).cell? ⟨wr.heap.size, 0, none⟩ = some (.int .i64 xi) := cell_regrown ((cells_at hA).1 0)
      have a1 : ∀ d os, (Go.Sort.grow (redrawn W d) os).cell? ⟨wr.heap.size, 1, none⟩ = some (.int .i64 xk) := cell_regrown ((cells_at hA).1 1)
      have a2 : ∀ d os, (Go.Sort.grow (redrawn W d) os).cell? ⟨wr.heap.size, 2, none⟩ = some (.int .i64 xs) := cell_regrown ((cells_at hA).1 2)
      have a3 : ∀ d os, (Go.Sort.grow (redrawn W d) os).cell? ⟨wr.heap.size, 3, none⟩ = some (.int .i64 xt) := cell_regrown ((cells_at hA).1 3)
      have a4 : ∀ d os, (Go.Sort.grow (redrawn W d) os).cell? ⟨wr.heap.size, 4, none⟩ = some (.int .i64 xd) := cell_regrown ((cells_at hA).1 4)
      have a5 : ∀ d os, (Go.Sort.grow (redrawn W d) os).cell? ⟨wr.heap.size, 5, none⟩ = some (.int .i64 xp) := cell_regrown ((cells_at hA).1 5)
      have a6 : ∀ d os, (Go.Sort.grow (redrawn W d) os).cell? ⟨wr.heap.size, 6, none⟩ = some (.int .i64 xq) := cell_regrown ((cells_at hA).1 6)
      have b0 : ∀ d os, (Go.Sort.grow (redrawn W d) os).cell? ⟨wr.heap.size + 1, 0, none⟩ = some (.int .i64 yi) := cell_regrown ((cells_at hD).1 0)
      have b1 : ∀ d os, (Go.Sort.grow (redrawn W d) os).cell? ⟨wr.heap.size + 1, 1, none⟩ = some (.int .i64 yk) := cell_regrown ((cells_at hD).1 1)
      have b2 : ∀ d os, (Go.Sort.grow (redrawn W d) os).cell? ⟨wr.heap.size + 1, 2, none⟩ = some (.int .i64 ys) := cell_regrown ((cells_at hD).1 2)
      have b3 : ∀ d os, (Go.Sort.grow (redrawn W d) os).cell? ⟨wr.heap.size + 1, 3, none⟩ = some (.int .i64 yt) := cell_regrown ((cells_at hD).1 3)
      have b4 : ∀ d os, (Go.Sort.grow (redrawn W d) os).cell? ⟨wr.heap.size + 1, 4, none⟩ = some (.int .i64 yd) := cell_regrown ((cells_at hD).1 4)
      have b5 : ∀ d os, (Go.Sort.grow (redrawn W d) os).cell? ⟨wr.heap.size + 1, 5, none⟩ = some (.int .i64 yp) := cell_regrown ((cells_at hD).1 5)
      have b6 : ∀ d os, (Go.Sort.grow (redrawn W d) os).cell? ⟨wr.heap.size + 1, 6, none⟩ = some (.int .i64 yq) := cell_regrown ((cells_at hD).1 6)
      clear hA hD
      have hq := qConf W ⟨xi, xk, xs, xt, xd, xp, xq⟩ ⟨yi, yk, ys, yt, yd, yp, yq⟩
      dsimp only at hq
      by_cases hs : xs = ys
      · subst hs
        by_cases hi : xi = yi
        · subst hi
          have hq := hq false (by simp)
          refine wp_region_quiet_below (by kernel_rfl) (by kernel_rfl) ?_
          repeat (quiet_step (with_reducible exact hq _ _))
          refine wpQuiet_nil ?_
          intro _ hw'
          obtain ⟨⟨dq, osq⟩, hw''⟩ := hw'
          subst hw''
          go_wp2
          go_roundw
          case rel => exact ⟨j + 1, by omega, by go_num, hBW.trans ((below_regrown W dq osq).mono hBW.size)⟩
          case measure => simp [RowKit.intOf]; omega
        · have e1 : (xi != yi) = true := by simpa using hi
          have hq := hq true (by simpa using hi)
          clear hi
          refine wp_region_quiet_below (by kernel_rfl) (by kernel_rfl) ?_
          repeat (quiet_step (with_reducible exact hq _ _))
          refine wpQuiet_nil ?_
          intro _ hw'
          obtain ⟨⟨dq, osq⟩, hw''⟩ := hw'
          subst hw''
          go_wp2
          go_roundw
          case rel => exact ⟨j + 1, by omega, by go_num, hBW.trans ((below_regrown W dq osq).mono hBW.size)⟩
          case measure => simp [RowKit.intOf]; omega
      · have e1 : (xs == ys) = false := by simpa using hs
        have hq := hq false (by simp [e1])
        clear hs
        refine wp_region_quiet_below (by kernel_rfl) (by kernel_rfl) ?_
        repeat (quiet_step (with_reducible exact hq _ _))
        refine wpQuiet_nil ?_
        intro _ hw'
        obtain ⟨⟨dq, osq⟩, hw''⟩ := hw'
        subst hw''
        go_wp2
        go_roundw
        case rel => exact ⟨j + 1, by omega, by go_num, hBW.trans ((below_regrown W dq osq).mono hBW.size)⟩
        case measure => simp [RowKit.intOf]; omega
    · rcases hv : cs.all C7.ok with _ | _
      all_goals
        have hR := pRight b o cap a cs ha (by omega) _ hv w hC hb
        have hR' := prRight b o cap a cs ha (by omega) _ hv w hC hb
        have hL := pAlive w ok
        clear hv hC hb ok
        go_wp2_with (first
          | (go_at_call 5; refine (hL _ hB).mono ?_; rintro e w1 ⟨rfl, hb1⟩)
          | (go_at_call 11; refine (hR _ hb1).mono ?_; rintro e w2 ⟨rfl, hb2⟩)
          | (go_at_call 12; refine (hR' _ hb2).mono ?_; rintro e w3 ⟨rfl, hb3⟩))
        go_ret
        exact ⟨rfl, hb3⟩

set_option maxHeartbeats 4000000 in
set_option maxRecDepth 100000 in
theorem wTells_no3t (b o cap : Nat) (a : Option Addr) (cs : List C7) (ha : 0 < cs.length → a = some ⟨b, o, none⟩) (hn : ¬ 200 < cs.length) (s h : Int) (h1 : 1 ≤ s) (h2 : s ≤ 256) (h3 : h < 0) (hm : namedB s = true) (w : World) (ok : Okw w) (hC : CmsAt w b o cs) (hb : 0 < cs.length → b < w.heap.size) :
    Calls Tryd.prog 3 #[.slice a cs.length cap, .int .i64 s, .int .i64 h] w fun e w' => e = .returned (.bool true) ∧ Below w.heap.size w w' := by
  obtain ⟨e1, e2⟩ := no_name s h (by omega)
  have hN := fun W => cName s h W
  rw [e1, e2] at hN
  clear e1 e2
  have hM := fun W => rNamed s W
  rw [hm] at hM
  clear hm
  go_enter Tryd.func3, Tryd.ntmps3
  go_wp2_with (first
    | (go_at_call 6; refine (hN _).mono ?_; rintro e w' ⟨rfl, rfl⟩)
    | (go_at_call 9; refine (hM _).mono ?_; rintro e w' ⟨rfl, rfl⟩))
  clear hN hM
  go_loopw [11] (fun i wr => ∃ j : Nat, j ≤ cs.length ∧ i = .int .i64 ((j : Int) + 1) ∧ Below w.heap.size w wr) (fun i _ => cs.length - (RowKit.intOf i).toNat)
  case atStart => exact ⟨0, Nat.zero_le _, rfl, Below.refl _ _⟩
  case round =>
    obtain ⟨j, hj, rfl, hB⟩ := hrel
    by_cases hlt : j + 1 < cs.length
    · obtain rfl := ha (by omega)
      obtain ⟨⟨xi, xk, xs, xt, xd, xp, xq⟩, hx⟩ : ∃ c, cs[j]? = some c := ⟨cs[j], List.getElem?_eq_getElem (by omega)⟩
      obtain ⟨⟨yi, yk, ys, yt, yd, yp, yq⟩, hy⟩ : ∃ c, cs[j + 1]? = some c := ⟨cs[j + 1], List.getElem?_eq_getElem hlt⟩
      have hbw := hb (by omega)
      have hbr : b < wr.heap.size := Nat.lt_of_lt_of_le hbw hB.size
      have hbn : b ≠ wr.heap.size := Nat.ne_of_lt hbr
      have hC1 := hC.on hB hbw
      obtain ⟨x0, x1, x2, x3, x4, x5, x6⟩ := hC1.at hx
      obtain ⟨y0, y1, y2, y3, y4, y5, y6⟩ := hC1.at hy
      clear hx hy hC1
      go_wp2_with fail
      clear x0 x1 x2 x3 x4 x5 x6 y0 y1 y2 y3 y4 y5 y6
      obtain ⟨W, hA, hD, hW, hBW⟩ : ∃ W : World, W.heap[wr.heap.size]? = some (.cells (cmCells xi xk xs xt xd xp xq) 32 (0, 0)) ∧ W.heap[wr.heap.size + 1]? = some (.cells (cmCells yi yk ys yt yd yp yq) 32 (0, 0)) ∧ (wr.alloc (.cells (cmCells xi xk xs xt xd xp xq) 32)).alloc (.cells (cmCells yi yk ys yt yd yp yq) 32) = W ∧ Below w.heap.size w W :=
        ⟨_, carryA (ha_new _ _ _ rfl), ha_new _ _ _ (by simp), rfl, (hB.alloc hB.size _).alloc (hB.alloc hB.size _).size _⟩
      rw [hW]
      clear hW hB hbr hbn hbw
      have a0 : ∀ d os, (Go.Sort.grow (redrawn W d) os).cell? ⟨wr.heap.size, 0, none⟩ = some (.int .i64 xi) := cell_regrown ((cells_at hA).1 0)
      have a1 : ∀ d os, (Go.Sort.grow (redrawn W d) os).cell? ⟨wr.heap.size, 1, none⟩ = some (.int .i64 xk) := cell_regrown ((cells_at hA).1 1)
      have a2 : ∀ d os, (Go.Sort.grow (redrawn W d) os).cell? ⟨wr.heap.size, 2, none⟩ = some (.int .i64 xs) := cell_regrown ((cells_at hA).1 2)
      have a3 : ∀ d os, (Go.Sort.grow (redrawn W d) os).cell? ⟨wr.heap.size, 3, none⟩ = some (.int .i64 xt) := cell_regrown ((cells_at hA).1 3)
      have a4 : ∀ d os, (Go.Sort.grow (redrawn W d) os).cell? ⟨wr.heap.size, 4, none⟩ = some (.int .i64 xd) := cell_regrown ((cells_at hA).1 4)
      have a5 : ∀ d os, (Go.Sort.grow (redrawn W d) os).cell? ⟨wr.heap.size, 5, none⟩ = some (.int .i64 xp) := cell_regrown ((cells_at hA).1 5)
      have a6 : ∀ d os, (Go.Sort.grow (redrawn W d) os).cell? ⟨wr.heap.size, 6, none⟩ = some (.int .i64 xq) := cell_regrown ((cells_at hA).1 6)
      have b0 : ∀ d os, (Go.Sort.grow (redrawn W d) os).cell? ⟨wr.heap.size + 1, 0, none⟩ = some (.int .i64 yi) := cell_regrown ((cells_at hD).1 0)
      have b1 : ∀ d os, (Go.Sort.grow (redrawn W d) os).cell? ⟨wr.heap.size + 1, 1, none⟩ = some (.int .i64 yk) := cell_regrown ((cells_at hD).1 1)
      have b2 : ∀ d os, (Go.Sort.grow (redrawn W d) os).cell? ⟨wr.heap.size + 1, 2, none⟩ = some (.int .i64 ys) := cell_regrown ((cells_at hD).1 2)
      have b3 : ∀ d os, (Go.Sort.grow (redrawn W d) os).cell? ⟨wr.heap.size + 1, 3, none⟩ = some (.int .i64 yt) := cell_regrown ((cells_at hD).1 3)
      have b4 : ∀ d os, (Go.Sort.grow (redrawn W d) os).cell? ⟨wr.heap.size + 1, 4, none⟩ = some (.int .i64 yd) := cell_regrown ((cells_at hD).1 4)
      have b5 : ∀ d os, (Go.Sort.grow (redrawn W d) os).cell? ⟨wr.heap.size + 1, 5, none⟩ = some (.int .i64 yp) := cell_regrown ((cells_at hD).1 5)
      have b6 : ∀ d os, (Go.Sort.grow (redrawn W d) os).cell? ⟨wr.heap.size + 1, 6, none⟩ = some (.int .i64 yq) := cell_regrown ((cells_at hD).1 6)
      clear hA hD
      have hq := qConf W ⟨xi, xk, xs, xt, xd, xp, xq⟩ ⟨yi, yk, ys, yt, yd, yp, yq⟩
      dsimp only at hq
      by_cases hs : xs = ys
      · subst hs
        by_cases hi : xi = yi
        · subst hi
          have hq := hq false (by simp)
          refine wp_region_quiet_below (by kernel_rfl) (by kernel_rfl) ?_
          repeat (quiet_step (with_reducible exact hq _ _))
          refine wpQuiet_nil ?_
          intro _ hw'
          obtain ⟨⟨dq, osq⟩, hw''⟩ := hw'
          subst hw''
          go_wp2
          go_roundw
          case rel => exact ⟨j + 1, by omega, by go_num, hBW.trans ((below_regrown W dq osq).mono hBW.size)⟩
          case measure => simp [RowKit.intOf]; omega
        · have e1 : (xi != yi) = true := by simpa using hi
          have hq := hq true (by simpa using hi)
          clear hi
          refine wp_region_quiet_below (by kernel_rfl) (by kernel_rfl) ?_
          repeat (quiet_step (with_reducible exact hq _ _))
          refine wpQuiet_nil ?_
          intro _ hw'
          obtain ⟨⟨dq, osq⟩, hw''⟩ := hw'
          subst hw''
          go_wp2
          go_roundw
          case rel => exact ⟨j + 1, by omega, by go_num, hBW.trans ((below_regrown W dq osq).mono hBW.size)⟩
          case measure => simp [RowKit.intOf]; omega
      · have e1 : (xs == ys) = false := by simpa using hs
        have hq := hq false (by simp [e1])
        clear hs
        refine wp_region_quiet_below (by kernel_rfl) (by kernel_rfl) ?_
        repeat (quiet_step (with_reducible exact hq _ _))
        refine wpQuiet_nil ?_
        intro _ hw'
        obtain ⟨⟨dq, osq⟩, hw''⟩ := hw'
        subst hw''
        go_wp2
        go_roundw
        case rel => exact ⟨j + 1, by omega, by go_num, hBW.trans ((below_regrown W dq osq).mono hBW.size)⟩
        case measure => simp [RowKit.intOf]; omega
    · rcases hv : cs.all C7.ok with _ | _
      all_goals
        have hR := pRight b o cap a cs ha (by omega) _ hv w hC hb
        have hR' := prRight b o cap a cs ha (by omega) _ hv w hC hb
        have hL := pAlive w ok
        clear hv hC hb ok
        go_wp2_with (first
          | (go_at_call 5; refine (hL _ hB).mono ?_; rintro e w1 ⟨rfl, hb1⟩)
          | (go_at_call 11; refine (hR _ hb1).mono ?_; rintro e w2 ⟨rfl, hb2⟩)
          | (go_at_call 12; refine (hR' _ hb2).mono ?_; rintro e w3 ⟨rfl, hb3⟩))
        go_ret
        exact ⟨rfl, hb3⟩

set_option maxHeartbeats 4000000 in
set_option maxRecDepth 100000 in
theorem wTells_no3f (b o cap : Nat) (a : Option Addr) (cs : List C7) (ha : 0 < cs.length → a = some ⟨b, o, none⟩) (hn : ¬ 200 < cs.length) (s h : Int) (h1 : 1 ≤ s) (h2 : s ≤ 256) (h3 : h < 0) (hm : namedB s = false) (w : World) (ok : Okw w) (hC : CmsAt w b o cs) (hb : 0 < cs.length → b < w.heap.size) :
    Calls Tryd.prog 3 #[.slice a cs.length cap, .int .i64 s, .int .i64 h] w fun e w' => e = .returned (.bool true) ∧ Below w.heap.size w w' := by
  obtain ⟨e1, e2⟩ := no_name s h (by omega)
  have hN := fun W => cName s h W
  rw [e1, e2] at hN
  clear e1 e2
  obtain ⟨e5, e6⟩ := not_named s hm
  have hM := fun W => rNamed s W
  rw [hm] at hM
  clear hm
  have hS := fun W => cSeq s W
  rw [e5] at hS
  have hT := fun W => cHome s W
  rw [e6] at hT
  clear e5 e6
  go_enter Tryd.func3, Tryd.ntmps3
  go_wp2_with (first
    | (go_at_call 6; refine (hN _).mono ?_; rintro e w' ⟨rfl, rfl⟩)
    | (go_at_call 9; refine (hM _).mono ?_; rintro e w' ⟨rfl, rfl⟩)
    | (go_at_call 7; (with_reducible refine (hS _).mono ?_); rintro e w' ⟨rfl, rfl⟩)
    | (go_at_call 8; (with_reducible refine (hT _).mono ?_); rintro e w' ⟨rfl, rfl⟩))
  clear hN hM hS hT
  go_loopw [11] (fun i wr => ∃ j : Nat, j ≤ cs.length ∧ i = .int .i64 ((j : Int) + 1) ∧ Below w.heap.size w wr) (fun i _ => cs.length - (RowKit.intOf i).toNat)
  case atStart => exact ⟨0, Nat.zero_le _, rfl, Below.refl _ _⟩
  case round =>
    obtain ⟨j, hj, rfl, hB⟩ := hrel
    by_cases hlt : j + 1 < cs.length
    · obtain rfl := ha (by omega)
      obtain ⟨⟨xi, xk, xs, xt, xd, xp, xq⟩, hx⟩ : ∃ c, cs[j]? = some c := ⟨cs[j], List.getElem?_eq_getElem (by omega)⟩
      obtain ⟨⟨yi, yk, ys, yt, yd, yp, yq⟩, hy⟩ : ∃ c, cs[j + 1]? = some c := ⟨cs[j + 1], List.getElem?_eq_getElem hlt⟩
      have hbw := hb (by omega)
      have hbr : b < wr.heap.size := Nat.lt_of_lt_of_le hbw hB.size
      have hbn : b ≠ wr.heap.size := Nat.ne_of_lt hbr
      have hC1 := hC.on hB hbw
      obtain ⟨x0, x1, x2, x3, x4, x5, x6⟩ := hC1.at hx
      obtain ⟨y0, y1, y2, y3, y4, y5, y6⟩ := hC1.at hy
      clear hx hy hC1
      go_wp2_with fail
      clear x0 x1 x2 x3 x4 x5 x6 y0 y1 y2 y3 y4 y5 y6
      obtain ⟨W, hA, hD, hW, hBW⟩ : ∃ W : World, W.heap[wr.heap.size]? = some (.cells (cmCells xi xk xs xt xd xp xq) 32 (0, 0)) ∧ W.heap[wr.heap.size + 1]? = some (.cells (cmCells yi yk ys yt yd yp yq) 32 (0, 0)) ∧ (wr.alloc (.cells (cmCells xi xk xs xt xd xp xq) 32)).alloc (.cells (cmCells yi yk ys yt yd yp yq) 32) = W ∧ Below w.heap.size w W :=
        ⟨_, carryA (ha_new _ _ _ rfl), ha_new _ _ _ (by simp), rfl, (hB.alloc hB.size _).alloc (hB.alloc hB.size _).size _⟩
      rw [hW]
      clear hW hB hbr hbn hbw
      have a0 : ∀ d os, (Go.Sort.grow (redrawn W d) os).cell? ⟨wr.heap.size, 0, none⟩ = some (.int .i64 xi) := cell_regrown ((cells_at hA).1 0)
      have a1 : ∀ d os, (Go.Sort.grow (redrawn W d) os).cell? ⟨wr.heap.size, 1, none⟩ = some (.int .i64 xk) := cell_regrown ((cells_at hA).1 1)
      have a2 : ∀ d os, (Go.Sort.grow (redrawn W d) os).cell? ⟨wr.heap.size, 2, none⟩ = some (.int .i64 xs) := cell_regrown ((cells_at hA).1 2)
      have a3 : ∀ d os, (Go.Sort.grow (redrawn W d) os).cell? ⟨wr.heap.size, 3, none⟩ = some (.int .i64 xt) := cell_regrown ((cells_at hA).1 3)
      have a4 : ∀ d os, (Go.Sort.grow (redrawn W d) os).cell? ⟨wr.heap.size, 4, none⟩ = some (.int .i64 xd) := cell_regrown ((cells_at hA).1 4)
      have a5 : ∀ d os, (Go.Sort.grow (redrawn W d) os).cell? ⟨wr.heap.size, 5, none⟩ = some (.int .i64 xp) := cell_regrown ((cells_at hA).1 5)
      have a6 : ∀ d os, (Go.Sort.grow (redrawn W d) os).cell? ⟨wr.heap.size, 6, none⟩ = some (.int .i64 xq) := cell_regrown ((cells_at hA).1 6)
      have b0 : ∀ d os, (Go.Sort.grow (redrawn W d) os).cell? ⟨wr.heap.size + 1, 0, none⟩ = some (.int .i64 yi) := cell_regrown ((cells_at hD).1 0)
      have b1 : ∀ d os, (Go.Sort.grow (redrawn W d) os).cell? ⟨wr.heap.size + 1, 1, none⟩ = some (.int .i64 yk) := cell_regrown ((cells_at hD).1 1)
      have b2 : ∀ d os, (Go.Sort.grow (redrawn W d) os).cell? ⟨wr.heap.size + 1, 2, none⟩ = some (.int .i64 ys) := cell_regrown ((cells_at hD).1 2)
      have b3 : ∀ d os, (Go.Sort.grow (redrawn W d) os).cell? ⟨wr.heap.size + 1, 3, none⟩ = some (.int .i64 yt) := cell_regrown ((cells_at hD).1 3)
      have b4 : ∀ d os, (Go.Sort.grow (redrawn W d) os).cell? ⟨wr.heap.size + 1, 4, none⟩ = some (.int .i64 yd) := cell_regrown ((cells_at hD).1 4)
      have b5 : ∀ d os, (Go.Sort.grow (redrawn W d) os).cell? ⟨wr.heap.size + 1, 5, none⟩ = some (.int .i64 yp) := cell_regrown ((cells_at hD).1 5)
      have b6 : ∀ d os, (Go.Sort.grow (redrawn W d) os).cell? ⟨wr.heap.size + 1, 6, none⟩ = some (.int .i64 yq) := cell_regrown ((cells_at hD).1 6)
      clear hA hD
      have hq := qConf W ⟨xi, xk, xs, xt, xd, xp, xq⟩ ⟨yi, yk, ys, yt, yd, yp, yq⟩
      dsimp only at hq
      by_cases hs : xs = ys
      · subst hs
        by_cases hi : xi = yi
        · subst hi
          have hq := hq false (by simp)
          refine wp_region_quiet_below (by kernel_rfl) (by kernel_rfl) ?_
          repeat (quiet_step (with_reducible exact hq _ _))
          refine wpQuiet_nil ?_
          intro _ hw'
          obtain ⟨⟨dq, osq⟩, hw''⟩ := hw'
          subst hw''
          go_wp2
          go_roundw
          case rel => exact ⟨j + 1, by omega, by go_num, hBW.trans ((below_regrown W dq osq).mono hBW.size)⟩
          case measure => simp [RowKit.intOf]; omega
        · have e1 : (xi != yi) = true := by simpa using hi
          have hq := hq true (by simpa using hi)
          clear hi
          refine wp_region_quiet_below (by kernel_rfl) (by kernel_rfl) ?_
          repeat (quiet_step (with_reducible exact hq _ _))
          refine wpQuiet_nil ?_
          intro _ hw'
          obtain ⟨⟨dq, osq⟩, hw''⟩ := hw'
          subst hw''
          go_wp2
          go_roundw
          case rel => exact ⟨j + 1, by omega, by go_num, hBW.trans ((below_regrown W dq osq).mono hBW.size)⟩
          case measure => simp [RowKit.intOf]; omega
      · have e1 : (xs == ys) = false := by simpa using hs
        have hq := hq false (by simp [e1])
        clear hs
        refine wp_region_quiet_below (by kernel_rfl) (by kernel_rfl) ?_
        repeat (quiet_step (with_reducible exact hq _ _))
        refine wpQuiet_nil ?_
        intro _ hw'
        obtain ⟨⟨dq, osq⟩, hw''⟩ := hw'
        subst hw''
        go_wp2
        go_roundw
        case rel => exact ⟨j + 1, by omega, by go_num, hBW.trans ((below_regrown W dq osq).mono hBW.size)⟩
        case measure => simp [RowKit.intOf]; omega
    · rcases hv : cs.all C7.ok with _ | _
      all_goals
        have hR := pRight b o cap a cs ha (by omega) _ hv w hC hb
        have hR' := prRight b o cap a cs ha (by omega) _ hv w hC hb
        have hL := pAlive w ok
        clear hv hC hb ok
        go_wp2_with (first
          | (go_at_call 5; refine (hL _ hB).mono ?_; rintro e w1 ⟨rfl, hb1⟩)
          | (go_at_call 11; refine (hR _ hb1).mono ?_; rintro e w2 ⟨rfl, hb2⟩)
          | (go_at_call 12; refine (hR' _ hb2).mono ?_; rintro e w3 ⟨rfl, hb3⟩))
        go_ret
        exact ⟨rfl, hb3⟩

end Go.Proofs.YtobndmolnliejaaDoor
