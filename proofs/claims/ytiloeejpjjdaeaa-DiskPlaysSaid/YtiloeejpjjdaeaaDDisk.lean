/- The program's disk, call by call. -/
import Derived.Test.YtiloeejpjjdaeaaDBase
import Derived.StillTailTactics
namespace Go.Proofs.Ytiloeejpjjdaeaa
set_option linter.unusedVariables false
open Go.RowKit
open Go.Lib (hid)

set_option maxRecDepth 100000 in
theorem cSync0 (w : World) : Calls Try.prog 9 #[.pointer none] w fun e w' => e = .returned (.tuple #[]) ∧ w = w' := by
  go_enter Try.func9, Try.ntmps9
  go_wp2
  refine bodyPost_ret (results_none rfl _ _ _) rfl ?_
  exact ⟨rfl, rfl⟩
set_option maxRecDepth 100000 in
theorem cCrash0 (k : Int) (w : World) : Calls Try.prog 10 #[.pointer none, .int .i64 k] w fun e w' => e = .returned (.tuple #[]) ∧ w = w' := by
  go_enter Try.func10, Try.ntmps10
  go_wp2
  refine bodyPost_ret (results_none rfl _ _ _) rfl ?_
  exact ⟨rfl, rfl⟩
set_option maxRecDepth 100000 in
theorem cAppend0 (v : Value) (w : World) : Calls Try.prog 11 #[.pointer none, v] w fun e w' => e = .returned (.int .i64 1) ∧ w = w' := by
  go_enter Try.func11, Try.ntmps11
  go_wp2
  go_ret
  exact ⟨rfl, rfl⟩
set_option maxRecDepth 100000 in
theorem cCut0 (n : Int) (w : World) : Calls Try.prog 12 #[.pointer none, .int .i64 n] w fun e w' => e = .returned (.int .i64 1) ∧ w = w' := by
  go_enter Try.func12, Try.ntmps12
  go_wp2
  go_ret
  exact ⟨rfl, rfl⟩
set_option maxRecDepth 100000 in
theorem cBytes0 (w : World) : Calls Try.prog 13 #[.pointer none] w fun e w' => e = .returned (.slice none 0 0) ∧ w = w' := by
  go_enter Try.func13, Try.ntmps13
  go_wp2
  go_ret
  exact ⟨rfl, rfl⟩
set_option maxRecDepth 100000 in
theorem cSynced0 (w : World) : Calls Try.prog 14 #[.pointer none] w fun e w' => e = .returned (.int .i64 0) ∧ w = w' := by
  go_enter Try.func14, Try.ntmps14
  go_wp2
  go_ret
  exact ⟨rfl, rfl⟩
set_option maxRecDepth 100000 in
theorem cLeft0 (w : World) : Calls Try.prog 15 #[.pointer none] w fun e w' => e = .returned (.int .i64 0) ∧ w = w' := by
  go_enter Try.func15, Try.ntmps15
  go_wp2
  go_ret
  exact ⟨rfl, rfl⟩
set_option maxRecDepth 100000 in
theorem cClone0 (w : World) : Calls Try.prog 16 #[.pointer none] w fun e w' => e = .returned (.pointer none) ∧ w = w' := by
  go_enter Try.func16, Try.ntmps16
  go_wp2
  go_ret
  exact ⟨rfl, rfl⟩

/-- May a disk have so much room? -/
def roomB (room : Int) : Bool := decide (0 ≤ room) && decide (room ≤ 16777216)
set_option maxRecDepth 100000 in
theorem rRight (room : Int) (w : World) : Calls Try.prog 8 #[.int .i64 room] w fun e w' => e = .returned (.bool (roomB room)) ∧ w = w' := by
  by_cases h0 : 0 ≤ room
  · go_enter Try.func8, Try.ntmps8
    go_wp2
    go_ret
    exact ⟨by unfold roomB; simp [h0], rfl⟩
  · have h1 : decide (0 ≤ room) = false := decide_eq_false h0
    have h2 : roomB room = false := by unfold roomB; rw [h1]; rfl
    rw [h2]
    clear h2
    go_enter Try.func8, Try.ntmps8
    go_wp2
    go_ret
    exact ⟨rfl, rfl⟩
set_option maxRecDepth 100000 in
theorem cNew_no (room : Int) (h : roomB room = false) (w : World) : Calls Try.prog 7 #[.int .i64 room] w fun e w' => e = .returned (.tuple #[.pointer none, .int .i64 1]) ∧ w = w' := by
  by_cases h0 : room < 0
  · clear h
    go_enter Try.func7, Try.ntmps7
    go_wp2
    go_ret2
    exact ⟨rfl, rfl⟩
  · have h1 : (16777216 : Int) < room := by unfold roomB at h; simp at h; exact h (by omega)
    go_enter Try.func7, Try.ntmps7
    go_wp2
    go_ret2
    exact ⟨rfl, rfl⟩
set_option maxRecDepth 100000 in
theorem cNew_yes (room : Int) (h : roomB room = true) (w : World) : Calls Try.prog 7 #[.int .i64 room] w fun e w' => e = .returned (.tuple #[ptr w.heap.size, .int .i64 0]) ∧ Dk w' w.heap.size room (.slice none 0 0) 0 ∧ Below w.heap.size w w' := by
  have h0 : ¬ room < 0 := by unfold roomB at h; simp at h; omega
  have h1 : ¬ (16777216 : Int) < room := by unfold roomB at h; simp at h; omega
  go_enter Try.func7, Try.ntmps7
  go_wp2
  go_ret2
  exact ⟨rfl, heap_alloc_new w _, (Below.refl _ w).alloc (Nat.le_refl _) _⟩

set_option maxRecDepth 100000 in
theorem cSynced {w : World} {p : Nat} {room s : Int} {v : Value} (h : Dk w p room v s) : Calls Try.prog 14 #[ptr p] w fun e w' => e = .returned (.int .i64 s) ∧ w = w' := by
  obtain ⟨hlt, c0, c1, c2, f0, f1, f2⟩ := h.cells
  clear h
  go_enter Try.func14, Try.ntmps14
  go_wp2
  go_ret
  exact ⟨rfl, rfl⟩

set_option maxHeartbeats 800000 in
set_option maxRecDepth 100000 in
theorem cLeft {w : World} {p : Nat} {room s : Int} {v : Value} {l : List UInt8} (h : Dk w p room v s) (hv : SlB w v l) (hr : roomB room = true) (hl : l.length ≤ 1000000) : Calls Try.prog 15 #[ptr p] w fun e w' => e = .returned (.int .i64 (room - (l.length : Int))) ∧ Below w.heap.size w w' := by
  obtain ⟨hlt, c0, c1, c2, f0, f1, f2⟩ := h.cells
  obtain ⟨a, cap, rfl, hcap, _⟩ := hv.any
  obtain ⟨n, hn⟩ : ∃ n, n = l.length := ⟨_, rfl⟩
  rw [← hn] at c1 hl ⊢
  unfold roomB at hr
  simp at hr
  have hw : wrap64 (room - (n : Int)) = room - (n : Int) := by unfold wrap64; omega
  clear h hv hcap hn f0 f1 f2
  go_enter Try.func15, Try.ntmps15
  go_wp2
  go_quiet (fail)
  go_wp2
  go_ret
  exact ⟨rfl, belowDrewN (Below.refl _ w) _⟩

set_option maxHeartbeats 800000 in
set_option maxRecDepth 100000 in
theorem cSync {w : World} {p : Nat} {room s : Int} {v : Value} {l : List UInt8} (h : Dk w p room v s) (hv : SlB w v l) : Calls Try.prog 9 #[ptr p] w fun e w' => e = .returned (.tuple #[]) ∧ Dk w' p room v l.length ∧ w.grownBy w' (some p) := by
  obtain ⟨hlt, c0, c1, c2, f0, f1, f2⟩ := h.cells
  obtain ⟨a, cap, rfl, hcap, _⟩ := hv.any
  have HP := hid h
  clear h hv hcap
  go_enter Try.func9, Try.ntmps9
  go_wp2
  go_end0
  exact ⟨rfl, HP.out.set2, grownSet _ _ _⟩

/-- The first k of a slice's elements. -/
theorem cut_run (a : Option Addr) (n cap k : Nat) (hk : k ≤ cap) (W : World) : (Instr.slice 33 (.slice a n cap) none (some (.int .i64 (k : Int))) none).run Try.prog W = .ok (.slice a k cap) W := by
  have hs : (sizeOf (Try.prog.elem 33)).run Try.prog W = .ok 1 W := by
    obtain ⟨i0, hi, hz0, hz1, hz2⟩ := info_parts Try.infoB
    rw [show Try.prog.elem 33 = 5 from by kernel_rfl]
    simp [sizeOf, typeInfo, hi, hz1]
  rw [run_slice_h (P := Try.prog) (w := W) 33 a n cap (by kernel_rfl) .i64 (k : Int) (by omega) (by omega), hs]
  show Result.ok (sliced a 0 k cap 1) W = _
  unfold sliced
  have : (if cap = 0 then a else a.map (·.add (0 * 1))) = a := by
    split
    · rfl
    · cases a with
      | none => rfl
      | some ad => simp [Addr.add]
  rw [this, Nat.sub_zero, Nat.sub_zero]

set_option maxHeartbeats 800000 in
set_option maxRecDepth 100000 in
theorem cStay {w : World} {p B : Nat} {room s : Int} {v : Value} {l : List UInt8} (h : Dk w p room v s) (ho : OwnB w B v l) (k : Nat) (hk : k ≤ l.length) : Calls Try.prog 18 #[ptr p, .int .i64 k] w fun e w' => e = .returned (.tuple #[]) ∧ (∃ v', Dk w' p room v' k ∧ OwnB w' B v' (l.take k) ∧ v'.ownBlock = v.ownBlock) ∧ w.grownBy w' (some p) := by
  obtain ⟨hlt, c0, c1, c2, f0, f1, f2⟩ := h.cells
  obtain ⟨a, cap, rfl, hcap, _⟩ := ho.slb.any
  have hs := cut_run a l.length cap k (by omega)
  have HP := hid h
  have HO := hid (ho.head hk)
  have HA := hid (h.apart (by decide) (ho.head hk))
  clear h ho hcap hk
  go_enter Try.func18, Try.ntmps18
  go_wp2
  go_end0
  have g : w.grownBy ((w.setCell ⟨p, 1, none⟩ (.slice a k cap)).setCell ⟨p, 2, none⟩ (.int .i64 k)) (some p) := grownTrans (grownSet _ _ _) (grownSet _ _ _)
  exact ⟨rfl, ⟨_, HP.out.set1.set2, HO.out.kept g (.inr HA.out), by cases a <;> rfl⟩, g⟩

/-- How many stay behind a crash. -/
def crashN (n s : Nat) (keep : Int) : Nat := s + (min (max keep 0) ((n : Int) - s)).toNat
set_option maxHeartbeats 1600000 in
set_option maxRecDepth 100000 in
theorem cCrash {w : World} {p B s : Nat} {room : Int} {v : Value} {l : List UInt8} (h : Dk w p room v s) (ho : OwnB w B v l) (hs : s ≤ l.length) (hl : l.length ≤ 1000000) (keep : Int) : Calls Try.prog 10 #[ptr p, .int .i64 keep] w fun e w' => e = .returned (.tuple #[]) ∧ (∃ v', Dk w' p room v' (crashN l.length s keep) ∧ OwnB w' B v' (l.take (crashN l.length s keep)) ∧ v'.ownBlock = v.ownBlock) ∧ w.grownBy w' (some p) := by
  have hC := fun (W : World) (hg : w.grownBy W none) => cStay (w := W) (obKept h hg (by simp)) (own_below ho (B := B) (C := w.heap.size) ⟨hg.os, hg.tape, hg.output, hg.size, fun k hk => hg.block k hk (by simp)⟩ (fun k hk => (ho.lt k hk).2)) (crashN l.length s keep) (by unfold crashN; omega)
  obtain ⟨hlt, c0, c1, c2, f0, f1, f2⟩ := h.cells
  obtain ⟨a, cap, rfl, hcap, _⟩ := ho.slb.any
  have HC := hid hC
  obtain ⟨n, hn⟩ : ∃ n, n = l.length := ⟨_, rfl⟩
  have HN := hid hn
  rw [← hn] at c1 hs hl
  obtain ⟨m, hm⟩ : ∃ m, m = crashN l.length s keep := ⟨_, rfl⟩
  rw [← hm] at HC ⊢
  have hmm : (s : Int) + min (max keep 0) ((n : Int) - s) = m := by rw [hm, ← hn]; unfold crashN; omega
  have hw1 : IntKind.i64.wrap ((n : Int) - (s : Int)) = (n : Int) - (s : Int) := by rw [IntKind.wrap_i64]; omega
  have h0 : ¬ (n : Int) - (s : Int) < 0 := by omega
  clear h ho hcap hC hn hm
  by_cases k1 : keep < 0
  · have e : (s : Int) = (m : Int) := by omega
    have E := hid e
    clear hmm e
    go_enter Try.func10, Try.ntmps10
    go_wp2
    go_still_tail 19, (by kernel_rfl)
    go_wp2_with fail
    rw [E.out]
    go_at_call 18
    refine (HC.out w.drew ⟨rfl, rfl, rfl, Nat.le_refl _, fun k _ _ => rfl⟩).mono ?_
    rintro e w2 ⟨rfl, hx, hg⟩
    have HX := hid (And.intro hx (grownOff hg))
    clear hx hg
    go_wp2_with fail
    go_end0
    exact ⟨rfl, HX.out.1, HX.out.2⟩
  · by_cases k2 : keep ≤ (n : Int) - (s : Int)
    · have e : (s : Int) + keep = (m : Int) := by omega
      have E := hid e
      have hw2 : IntKind.i64.wrap ((s : Int) + keep) = (s : Int) + keep := by rw [IntKind.wrap_i64]; omega
      clear hmm e
      go_enter Try.func10, Try.ntmps10
      go_wp2
      go_still_tail 19, (by kernel_rfl)
      go_wp2_with fail
      rw [E.out]
      go_at_call 18
      refine (HC.out w.drew ⟨rfl, rfl, rfl, Nat.le_refl _, fun k _ _ => rfl⟩).mono ?_
      rintro e w2 ⟨rfl, hx, hg⟩
      have HX := hid (And.intro hx (grownOff hg))
      clear hx hg
      go_wp2_with fail
      go_end0
      exact ⟨rfl, HX.out.1, HX.out.2⟩
    · have k3 : (n : Int) - (s : Int) < keep := by omega
      have e : (s : Int) + ((n : Int) - (s : Int)) = (m : Int) := by omega
      have E := hid e
      have hw2 : IntKind.i64.wrap ((s : Int) + ((n : Int) - (s : Int))) = (s : Int) + ((n : Int) - (s : Int)) := by rw [IntKind.wrap_i64]; omega
      clear hmm e
      go_enter Try.func10, Try.ntmps10
      go_wp2
      go_still_tail 19, (by kernel_rfl)
      go_wp2_with fail
      rw [E.out]
      go_at_call 18
      refine (HC.out w.drew ⟨rfl, rfl, rfl, Nat.le_refl _, fun k _ _ => rfl⟩).mono ?_
      rintro e w2 ⟨rfl, hx, hg⟩
      have HX := hid (And.intro hx (grownOff hg))
      clear hx hg
      go_wp2_with fail
      go_end0
      exact ⟨rfl, HX.out.1, HX.out.2⟩

set_option maxHeartbeats 1600000 in
set_option maxRecDepth 100000 in
theorem cCut_no {w : World} {p : Nat} {room s : Int} {v : Value} {l : List UInt8} (h : Dk w p room v s) (hv : SlB w v l) (n : Int) (hn : n < 0 ∨ (l.length : Int) < n) : Calls Try.prog 12 #[ptr p, .int .i64 n] w fun e w' => e = .returned (.int .i64 1) ∧ w = w' := by
  obtain ⟨hlt, c0, c1, c2, f0, f1, f2⟩ := h.cells
  obtain ⟨a, cap, rfl, hcap, _⟩ := hv.any
  clear h hv hcap
  by_cases h0 : n < 0
  · clear hn
    go_enter Try.func12, Try.ntmps12
    go_wp2
    go_ret
    exact ⟨rfl, rfl⟩
  · have h1 : (l.length : Int) < n := by omega
    clear hn
    go_enter Try.func12, Try.ntmps12
    go_wp2
    go_ret
    exact ⟨rfl, rfl⟩
set_option maxHeartbeats 1600000 in
set_option maxRecDepth 100000 in
theorem cCut_yes {w : World} {p B : Nat} {room s : Int} {v : Value} {l : List UInt8} (h : Dk w p room v s) (ho : OwnB w B v l) (k : Nat) (hk : k ≤ l.length) : Calls Try.prog 12 #[ptr p, .int .i64 k] w fun e w' => e = .returned (.int .i64 0) ∧ (∃ v', Dk w' p room v' k ∧ OwnB w' B v' (l.take k) ∧ v'.ownBlock = v.ownBlock) ∧ w.grownBy w' (some p) := by
  have HC := hid (cStay h ho k hk)
  obtain ⟨hlt, c0, c1, c2, f0, f1, f2⟩ := h.cells
  obtain ⟨a, cap, rfl, hcap, _⟩ := ho.slb.any
  have h1 : ¬ (l.length : Int) < (k : Int) := by omega
  clear h ho hcap
  go_enter Try.func12, Try.ntmps12
  go_wp2_with fail
  go_at_call 18
  refine HC.out.mono ?_
  rintro e w2 ⟨rfl, hx, hg⟩
  have HX := hid (And.intro hx hg)
  clear hx hg
  go_wp2_with fail
  go_ret
  exact ⟨rfl, HX.out.1, HX.out.2⟩

set_option maxHeartbeats 1600000 in
set_option maxRecDepth 100000 in
theorem cAppend_no {w : World} {p : Nat} {room s : Int} {v vb : Value} {l b : List UInt8} (h : Dk w p room v s) (hv : SlB w v l) (hb : SlB w vb b) (hr : roomB room = true) (hl : l.length ≤ 1000000) (hf : room - (l.length : Int) < (b.length : Int)) : Calls Try.prog 11 #[ptr p, vb] w fun e w' => e = .returned (.int .i64 4) ∧ Below w.heap.size w w' := by
  have HL := hid (cLeft h hv hr hl)
  obtain ⟨hlt, c0, c1, c2, f0, f1, f2⟩ := h.cells
  obtain ⟨a, cap, rfl, hcap, _⟩ := hb.any
  clear h hv hcap hb hr
  go_enter Try.func11, Try.ntmps11
  go_wp2_with fail
  go_at_call 15
  refine HL.out.mono ?_
  rintro e w2 ⟨rfl, hx⟩
  go_wp2_with fail
  go_ret
  exact ⟨rfl, hx⟩
set_option maxHeartbeats 1600000 in
set_option maxRecDepth 100000 in
theorem cAppend_yes {w : World} {p B : Nat} {room s : Int} {v vb : Value} {l b : List UInt8} (h : Dk w p room v s) (hv : OwnB w B v l) (hb : SlB w vb b) (hB : B ≤ w.heap.size) (hr : roomB room = true) (hl : l.length + b.length ≤ 1000000) (hf : ¬ room - (l.length : Int) < (b.length : Int)) :
    Calls Try.prog 11 #[ptr p, vb] w fun e w' => e = .returned (.int .i64 0) ∧ (∃ v', Dk w' p room v' s ∧ OwnB w' B v' (l ++ b)) ∧ (∃ W, w.grownBy W v.ownBlock ∧ W.grownBy w' (some p)) := by
  have HL := hid (cLeft h hv.slb hr (by omega))
  have HP := hid h
  have HV := hid hv
  have HVB := hid hb
  have HH := hid (And.intro hB hl)
  obtain ⟨a, cap, rfl, hcap, _⟩ := hb.any
  obtain ⟨a', cap', rfl, hcap', _⟩ := hv.slb.any
  clear h hv hcap hb hr hcap'
  go_enter Try.func11, Try.ntmps11
  go_wp2_with fail
  go_at_call 15
  refine HL.out.mono ?_
  rintro e w2 ⟨rfl, hx⟩
  have HB2 := hid hx
  have hq := obOn HP.out hx (Array.getElem?_eq_some_iff.1 HP.out).1
  have HQ := hid hq
  obtain ⟨hlt, c0, c1, c2, f0, f1, f2⟩ := Tri.cells hq
  have HV2 := hid (own_below HV.out hx (fun k hk => (HV.out.lt k hk).2))
  have HVB2 := hid (HVB.out.on hx)
  have hsz := hx.size
  have HA := hid (Tri.apart hq (by decide) HV2.out)
  clear hx hq
  go_wp2_with (at_builtin; refine wpList_append_slb rfl _ _ rfl B _ l rfl HV2.out _ b rfl HVB2.out HH.out.2 (by have := HH.out.1; omega) ?_; intro v' w3 ho' hg; have HO := hid ho'; have HG : Hid (w2.grownBy w3 (Value.slice a' l.length cap').ownBlock) := hid hg; have hq3 := obKept HQ.out hg HA.out; have HA3 := hid (Tri.apart hq3 (by decide) ho'); have HQ3 := hid hq3; obtain ⟨hlt3, d0, d1, d2, g0, g1, g2⟩ := Tri.cells hq3; clear hq3; obtain ⟨ga, ca, na, rfl, hna⟩ := ho'.asSlice; clear ho' hg hna)
  go_ret
  exact ⟨rfl, ⟨_, Tri.set1 HQ3.out, HO.out.kept (grownSet _ _ _) (.inr HA3.out)⟩, _, grownTrans (grownBelow HB2.out _) HG.out, grownSet _ _ _⟩

end Go.Proofs.Ytiloeejpjjdaeaa
