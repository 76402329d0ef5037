import Derived.Test.YtlehcaacfgocaaaGreatG09
import Derived.Deep.QuietTactic
import Derived.BigQuiet
import Derived.StillTailTactics
import Derived.WalkSpells
namespace Go.Proofs.YtlehcaacfgocaaaGreat
set_option linter.unusedVariables false
open Go.RowKit
open Go.Lib (hid)
theorem eqMapNil (a : Nat) (w : World) : (binOp .neq 83 (.map (some a)) (.map none)).run Tryz.prog w = .ok (.bool true) w := by
  simp only [binOp]
  simp [Op.equal, Op.maxDepth, run_equalIn_map_nil w 9999 83 3 67 (some a) Tryz.underlying83, Result.andThen]
set_option maxHeartbeats 1000000 in
set_option maxRecDepth 100000 in
theorem cMade {w : World} {x b b2 n : Nat} {nd c : Int} {xs : List En} {ids : List Int} (h : Ix w x b b2 n nd c xs ids) : Calls Tryz.prog 48 #[ptr x] w fun e w' => e = .returned (.bool true) ∧ w = w' := by
  obtain ⟨k0, k1, k2, k3, f1⟩ := h.cells
  have hE := eqMapNil
  clear h
  go_enter Tryz.func48, Tryz.ntmps48
  go_wp2
  go_ret
  exact ⟨rfl, rfl⟩
theorem cNode {w : World} {x b b2 n : Nat} {nd c : Int} {xs : List En} {ids : List Int} (h : Ix w x b b2 n nd c xs ids) : Calls Tryz.prog 122 #[ptr x] w fun e w' => e = .returned (.int .i64 nd) ∧ w = w' := by
  have hM := cMade h
  obtain ⟨k0, k1, k2, k3, f1⟩ := h.cells
  clear h
  go_enter Tryz.func122, Tryz.ntmps122
  go_wp2_with (go_at_call 48; refine hM.mono ?_; rintro e w' ⟨rfl, rfl⟩)
  go_ret
  exact ⟨rfl, rfl⟩
def seeI (c t : Int) : Int := if c < countI t then countI t else c
theorem see_bd {c t : Int} (h : 0 ≤ c ∧ c ≤ 65535) : 0 ≤ seeI c t ∧ seeI c t ≤ 65535 := by
  have := count_bd t
  unfold seeI; split <;> omega
set_option maxHeartbeats 1000000 in
set_option maxRecDepth 100000 in
theorem cSee {w : World} {x b b2 n : Nat} {nd c : Int} {xs : List En} {ids : List Int} (h : Ix w x b b2 n nd c xs ids) (t : Int) :
    Calls Tryz.prog 32 #[ptr x, .int .i64 t] w fun e w' => e = .returned (.tuple #[]) ∧ Ix w' x b b2 n nd (seeI c t) xs ids ∧ Tch (fun k => k = x) w w' := by
  have hM := cMade h
  have hC := fun W => (sCount_any t W).mono (fun e w' (h : e = _ ∧ W = w') => And.intro h.1 h.2.symm)
  have HX : Hid (Ix w.drew x b b2 n nd c xs ids) := hid (h.on (belowDrew (Below.refl _ w)))
  have HT : Hid (Tch (fun k => k = x) w w.drew) := hid (Tch.ofBelow (belowDrew (Below.refl _ w)))
  obtain ⟨k, hk⟩ : ∃ k, k = countI t := ⟨_, rfl⟩
  have HS := hid (show seeI c t = if c < k then k else c by rw [hk]; rfl)
  rw [← hk] at hC
  clear h hk
  go_enter Tryz.func32, Tryz.ntmps32
  go_wp2_with (go_at_call 48; refine hM.mono ?_; rintro e w' ⟨rfl, rfl⟩)
  refine wp_region_still_tail 10 (by kernel_rfl) (by kernel_rfl) ?_
  obtain ⟨W1, hW1⟩ : ∃ W1 : World, W1 = { w with drawn := w.drawn + 1 } := ⟨_, rfl⟩
  rw [← hW1]
  replace HX : Hid (Ix W1 x b b2 n nd c xs ids) := hid (by rw [hW1]; exact HX.out)
  replace HT : Hid (Tch (fun k => k = x) w W1) := hid (by rw [hW1]; exact HT.out)
  clear hW1
  obtain ⟨k0, k1, k2, k3, f1⟩ := HX.out.cells
  simp only [List.take_succ_cons, List.take_zero, List.drop_succ_cons, List.drop_zero]
  still_step
  still_step
  still_step
  still_step
  still_step
  still_step
  still_call (hC _)
  still_step
  still_step
  still_step
  refine wpStill_nil ?_
  rw [← HS.out]
  go_wp2_with fail
  go_end0
  obtain ⟨h1, h2⟩ := HX.out.clock (seeI c t)
  exact ⟨rfl, h1, HT.out.trans h2⟩
set_option maxHeartbeats 1000000 in
set_option maxRecDepth 100000 in
theorem cTick {w : World} {x b b2 n : Nat} {nd c : Int} {xs : List En} {ids : List Int} (h : Ix w x b b2 n nd c xs ids) (hc : 0 ≤ c ∧ c ≤ 65535) :
    Calls Tryz.prog 150 #[ptr x] w fun e w' => e = .returned (two (mkV (c + 1) nd) (mkE (c + 1) nd)) ∧ Ix w' x b b2 n nd (if mkE (c + 1) nd = 0 then c + 1 else c) xs ids ∧ Tch (fun k => k = x) w w' := by
  have hM := cMade h
  have hT := fun W => (sMake_any (c + 1) nd W)
  have hz : mkE (c + 1) nd ≠ 0 → mkV (c + 1) nd = 0 := by unfold mkE mkV; intro h; repeat' split <;> first | omega | simp_all
  obtain ⟨e, he⟩ : ∃ e, e = mkE (c + 1) nd := ⟨_, rfl⟩
  obtain ⟨v, hv⟩ : ∃ v, v = mkV (c + 1) nd := ⟨_, rfl⟩
  rw [← he, ← hv] at hT hz
  rw [← he, ← hv]
  have HX : Hid (Ix w x b b2 n nd c xs ids) := hid h
  have hw : IntKind.i64.wrap (c + 1) = c + 1 := by rw [IntKind.wrap_i64]; omega
  obtain ⟨k0, k1, k2, k3, f1⟩ := h.cells
  have HZ := hid hz
  have h0 : e = 0 ∨ e ≠ 0 := by omega
  clear h he hv hz
  go_enter Tryz.func150, Tryz.ntmps150
  go_wp2_with (go_at_call 48; refine hM.mono ?_; rintro e w' ⟨rfl, rfl⟩)
  go_quiet (with_reducible exact quietS (hT _))
  obtain ⟨W1, hW1⟩ : ∃ W, W = w.drewN nq := ⟨_, rfl⟩
  rw [← hW1]
  replace HX : Hid (Ix W1 x b b2 n nd c xs ids ∧ Tch (fun k => k = x) w W1) := hid (by rw [hW1]; exact ⟨HX.out.on (belowDrewN (Below.refl _ w) nq), Tch.ofBelow (belowDrewN (Below.refl _ w) nq)⟩)
  clear hW1 k0 k1 k2 k3 f1
  obtain ⟨k0, k1, k2, k3, f1⟩ := HX.out.1.cells
  rcases h0 with h0 | h0
  · subst h0
    go_wp2_with fail
    go_ret2
    obtain ⟨h1, h2⟩ := HX.out.1.clock (c + 1)
    exact ⟨rfl, h1, HX.out.2.trans h2⟩
  · obtain rfl := HZ.out h0
    have h3 : (e == 0) = false := by simpa using h0
    go_wp2_with fail
    go_ret2
    exact ⟨rfl, HX.out.1, HX.out.2⟩
end Go.Proofs.YtlehcaacfgocaaaGreat
