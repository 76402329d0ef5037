/- The document's disk, call by call. -/
import Derived.Test.YtiloeejpjjdaeaaDBytes
namespace Go.Proofs.Ytiloeejpjjdaeaa
set_option linter.unusedVariables false
open Go.RowKit
open Go.Lib (hid)

set_option maxHeartbeats 1600000 in
set_option maxRecDepth 100000 in
theorem rAppend_no {w : World} {q : Nat} {room s : Int} {v vb : Value} {l b : List UInt8} (h : Rk w q room v s) (hv : SlB w v l) (hb : SlB w vb b) (hr : roomB room = true) (hl : l.length ≤ 1000000) (hf : room - (l.length : Int) < (b.length : Int)) : Calls Try.prog 19 #[ptr q, vb] w fun e w' => e = .returned (.int .i64 4) ∧ Below w.heap.size w w' := by
  obtain ⟨hlt, c0, c1, c2, f0, f1, f2⟩ := h.cells
  obtain ⟨a, cap, rfl, hcap, _⟩ := hb.any
  obtain ⟨a', cap', rfl, hcap', _⟩ := hv.any
  unfold roomB at hr
  simp at hr
  have hw : wrap64 (room - (l.length : Int)) = room - (l.length : Int) := by unfold wrap64; omega
  clear h hv hcap hb hcap' f0 f1 f2
  go_enter Try.func19, Try.ntmps19
  go_wp2_with fail
  go_quiet (fail)
  go_wp2
  go_ret
  exact ⟨rfl, belowDrewN (Below.refl _ w) _⟩
set_option maxHeartbeats 1600000 in
set_option maxRecDepth 100000 in
theorem rAppend_yes {w : World} {q : Nat} {room s : Int} {v vb : Value} {l b : List UInt8} (h : Rk w q room v s) (hv : SlB w v l) (hb : SlB w vb b) (hr : roomB room = true) (hl : l.length + b.length ≤ 1000000) (hf : ¬ room - (l.length : Int) < (b.length : Int)) :
    Calls Try.prog 19 #[ptr q, vb] w fun e w' => e = .returned (.int .i64 0) ∧ (∃ v', Rk w' q room v' s ∧ OwnB w' w.heap.size v' (l ++ b)) ∧ w.grownBy w' (some q) := by
  have HP := hid h
  have HV := hid hv
  have HVB := hid hb
  have HL := hid hl
  obtain ⟨hlt, c0, c1, c2, f0, f1, f2⟩ := h.cells
  obtain ⟨a, cap, rfl, hcap, _⟩ := hb.any
  obtain ⟨a', cap', rfl, hcap', _⟩ := hv.any
  have hl1 : l.length ≤ 1000000 := by omega
  have hl2 : b.length ≤ 1000000 := by omega
  unfold roomB at hr
  simp at hr
  have hw : wrap64 (room - (l.length : Int)) = room - (l.length : Int) := by unfold wrap64; omega
  clear h hv hcap hb hcap' f0 f1 f2 hl
  go_enter Try.func19, Try.ntmps19
  go_wp2_with fail
  go_quiet (fail)
  obtain ⟨W0, hW0⟩ : ∃ W, W = w.drewN nq := ⟨_, rfl⟩
  have hb0 : Below w.heap.size w W0 := by rw [hW0]; exact belowDrewN (Below.refl _ w) _
  have hsz := hid (show W0.heap.size = w.heap.size by rw [hW0]; rfl)
  rw [← hW0]
  have HQ := hid (obOn HP.out hb0 hlt)
  have HV0 := hid (HV.out.on hb0)
  have HVB0 := hid (HVB.out.on hb0)
  obtain ⟨hlt0, d0, d1, d2, g0, g1, g2⟩ := Tri.cells HQ.out
  have HB0 := hid hb0
  clear c0 c1 c2 hW0 hb0
  have tok : Hid (0 = 0) := hid rfl
  go_wp2_with (first
    | (clear tok; at_builtin; refine wpList_append_slb rfl _ _ rfl W0.heap.size _ [] rfl (OwnB.made W0) _ l rfl (HV0.out.on ((Below.refl _ W0).alloc (Nat.le_refl _) _)) (by simp; omega) (by simp) ?_; intro v1 w1 ho hg; have hb1 : Below W0.heap.size W0 w1 := ((Below.refl _ W0).alloc (Nat.le_refl _) (.cells #[] 5)).grown hg (by simp) (fun k hk => by cases hk; exact Nat.le_refl _); have HB1 := hid hb1; have HO1 : Hid (OwnB w1 W0.heap.size v1 l) := hid ho; have HQ1 := hid (obOn HQ.out hb1 hlt0); have HVB1 := hid (HVB0.out.on hb1); obtain ⟨ga, ca, na, rfl, hna⟩ := ho.asSlice; clear ho hg hb1 hna)
    | (at_builtin; refine wpList_append_slb rfl _ _ rfl W0.heap.size _ l rfl HO1.out _ b rfl HVB1.out HL.out HB1.out.size ?_; intro v2 w2 ho hg; have hb2 : Below W0.heap.size W0 w2 := HB1.out.grown hg HB1.out.size (fun k hk => (HO1.out.lt k hk).1); have HB2 := hid hb2; have HO2 := hid ho; have hq2 := obOn HQ.out hb2 hlt0; have HQ2 := hid hq2; obtain ⟨k1, k2, k3, k4, k5, k6, k7⟩ := Tri.cells hq2; obtain ⟨ga2, ca2, na2, rfl, hna2⟩ := ho.asSlice; clear ho hg hb2 hq2 hna2))
  go_ret
  have HA := Tri.apart HQ2.out (by decide) HO2.out
  refine ⟨rfl, ⟨_, Tri.set1 HQ2.out, ?_⟩, grownTrans (grownBelow (HB0.out.trans (HB2.out.mono (by rw [hsz.out]; exact Nat.le_refl _))) _) (grownSet _ _ _)⟩
  exact own_monoB (HO2.out.kept (grownSet _ _ _) (.inr HA)) (by rw [hsz.out]; exact Nat.le_refl _)

theorem crash_end {w W0 : World} {q s m n cap : Nat} {a : Option Addr} {room : Int} {l : List UInt8} (h : Rk W0 q room (.slice a n cap) s) (hv : SlB W0 (.slice a n cap) l) (hm : m ≤ n) (hn : n = l.length) (hb : Below w.heap.size w W0) (hq : ∀ k, (Value.slice a n cap).ownBlock = some k → k ≠ q) :
    Ending.returned (.tuple #[]) = Ending.returned (.tuple #[]) ∧ (∃ v', Rk ((W0.setCell ⟨q, 1, none⟩ (.slice a m cap)).setCell ⟨q, 2, none⟩ (.int .i64 m)).drew q room v' m ∧ SlB ((W0.setCell ⟨q, 1, none⟩ (.slice a m cap)).setCell ⟨q, 2, none⟩ (.int .i64 m)).drew v' (l.take m) ∧ v'.ownBlock = (Value.slice a l.length cap).ownBlock) ∧ w.grownBy ((W0.setCell ⟨q, 1, none⟩ (.slice a m cap)).setCell ⟨q, 2, none⟩ (.int .i64 m)).drew (some q) := by
  have g : W0.grownBy ((W0.setCell ⟨q, 1, none⟩ (.slice a m cap)).setCell ⟨q, 2, none⟩ (.int .i64 m)).drew (some q) := grownDrew (grownTrans (grownSet _ _ _) (grownSet _ _ _))
  refine ⟨rfl, ⟨.slice a m cap, Tri.set2 (Tri.set1 h), (hv.headA (by omega)).kept g ?_, ?_⟩, grownTrans (grownBelow hb _) g⟩
  · intro k hk e
    injection e with e
    subst e
    cases a with
    | none => simp [Value.ownBlock] at hk
    | some ad => exact hq q hk rfl
  · cases a <;> rfl
theorem crash_le (n s : Nat) (hs : s ≤ n) (keep : Int) : crashN n s keep ≤ n := by unfold crashN; omega
set_option maxHeartbeats 1600000 in
set_option maxRecDepth 100000 in
theorem rCrash {w : World} {q s : Nat} {room : Int} {v : Value} {l : List UInt8} (h : Rk w q room v s) (hv : SlB w v l) (hs : s ≤ l.length) (hl : l.length ≤ 1000000) (hq : ∀ k, v.ownBlock = some k → k ≠ q) (keep : Int) : Calls Try.prog 20 #[ptr q, .int .i64 keep] w fun e w' => e = .returned (.tuple #[]) ∧ (∃ v', Rk w' q room v' (crashN l.length s keep) ∧ SlB w' v' (l.take (crashN l.length s keep)) ∧ v'.ownBlock = v.ownBlock) ∧ w.grownBy w' (some q) := by
  have HP := hid h
  have HV := hid hv
  have HQ := hid hq
  have HC := hid (crash_le l.length s hs keep)
  obtain ⟨hlt, c0, c1, c2, f0, f1, f2⟩ := h.cells
  obtain ⟨a, cap, rfl, hcap, _⟩ := hv.any
  obtain ⟨n, hn⟩ : ∃ n, n = l.length := ⟨_, rfl⟩
  have HN := hid hn
  rw [← hn] at c1 hs hl hcap HC HP HV HQ
  obtain ⟨m, hm⟩ : ∃ m, m = crashN l.length s keep := ⟨_, rfl⟩
  rw [← hm]
  have hmm : (s : Int) + min (max keep 0) ((n : Int) - s) = m := by rw [hm, ← hn]; unfold crashN; omega
  have HM : Hid (m ≤ n) := hid (by omega)
  have hmc : (m : Int) ≤ (cap : Int) := by omega
  have hw1 : IntKind.i64.wrap ((n : Int) - (s : Int)) = (n : Int) - (s : Int) := by rw [IntKind.wrap_i64]; omega
  have hw1' : wrap64 ((n : Int) - (s : Int)) = (n : Int) - (s : Int) := by unfold wrap64; omega
  have hr := cut_run a n cap m (by omega)
  clear h hv hcap hq hn hm
  by_cases k1 : keep < 0
  · have e : (s : Int) = (m : Int) := by omega
    obtain rfl : s = m := by omega
    have k2 : keep < (n : Int) - (s : Int) := by omega
    have hw2 : IntKind.i64.wrap (s : Int) = (s : Int) := by rw [IntKind.wrap_i64]; omega
    clear hmm e
    go_enter Try.func20, Try.ntmps20
    go_wp2_with fail
    go_quiet (fail)
    obtain ⟨W0, hW0⟩ : ∃ W, W = w.drewN nq := ⟨_, rfl⟩
    have hb0 : Below w.heap.size w W0 := by rw [hW0]; exact belowDrewN (Below.refl _ w) _
    rw [← hW0]
    have HQ0 := hid (obOn HP.out hb0 hlt)
    obtain ⟨hlt0, d0, d1, d2, g0, g1, g2⟩ := Tri.cells HQ0.out
    have HB0 := hid hb0
    clear c0 c1 c2 f0 f1 f2 hW0 hb0
    go_wp2_with fail
    go_still_tail 14, (by kernel_rfl)
    go_wp2_with fail
    go_end0
    exact crash_end HQ0.out (HV.out.on HB0.out) HM.out HN.out HB0.out HQ.out
  by_cases k2 : keep < (n : Int) - (s : Int)
  · obtain ⟨k, rfl⟩ : ∃ k : Nat, keep = k := ⟨keep.toNat, by omega⟩
    have e : (s : Int) + (k : Int) = (m : Int) := by omega
    have hw2 : IntKind.i64.wrap ((s : Int) + (k : Int)) = (m : Int) := by rw [IntKind.wrap_i64]; omega
    clear hmm e
    go_enter Try.func20, Try.ntmps20
    go_wp2_with fail
    go_quiet (fail)
    obtain ⟨W0, hW0⟩ : ∃ W, W = w.drewN nq := ⟨_, rfl⟩
    have hb0 : Below w.heap.size w W0 := by rw [hW0]; exact belowDrewN (Below.refl _ w) _
    rw [← hW0]
    have HQ0 := hid (obOn HP.out hb0 hlt)
    obtain ⟨hlt0, d0, d1, d2, g0, g1, g2⟩ := Tri.cells HQ0.out
    have HB0 := hid hb0
    clear c0 c1 c2 f0 f1 f2 hW0 hb0
    go_wp2_with fail
    go_still_tail 14, (by kernel_rfl)
    go_wp2_with fail
    go_end0
    exact crash_end HQ0.out (HV.out.on HB0.out) HM.out HN.out HB0.out HQ.out
  · have e : (s : Int) + ((n : Int) - (s : Int)) = (m : Int) := by omega
    have hw2 : IntKind.i64.wrap ((s : Int) + ((n : Int) - (s : Int))) = (m : Int) := by rw [IntKind.wrap_i64]; omega
    clear hmm e
    go_enter Try.func20, Try.ntmps20
    go_wp2_with fail
    go_quiet (fail)
    obtain ⟨W0, hW0⟩ : ∃ W, W = w.drewN nq := ⟨_, rfl⟩
    have hb0 : Below w.heap.size w W0 := by rw [hW0]; exact belowDrewN (Below.refl _ w) _
    rw [← hW0]
    have HQ0 := hid (obOn HP.out hb0 hlt)
    obtain ⟨hlt0, d0, d1, d2, g0, g1, g2⟩ := Tri.cells HQ0.out
    have HB0 := hid hb0
    clear c0 c1 c2 f0 f1 f2 hW0 hb0
    go_wp2_with fail
    go_still_tail 14, (by kernel_rfl)
    go_wp2_with fail
    go_end0
    exact crash_end HQ0.out (HV.out.on HB0.out) HM.out HN.out HB0.out HQ.out
end Go.Proofs.Ytiloeejpjjdaeaa
