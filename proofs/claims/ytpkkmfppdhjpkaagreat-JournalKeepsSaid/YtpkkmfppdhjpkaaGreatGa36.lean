import Derived.Test.YtpkkmfppdhjpkaaGreatGa28
import Derived.StillTailTactics
import Derived.Deep.RegionHeld3
/- The program's disk, call by call. -/
namespace Go.Proofs.YtpkkmfppdhjpkaaGreat
set_option linter.unusedVariables false
open Go.RowKit
open Go.Lib (hid)

set_option maxRecDepth 100000 in
theorem cSync0 (w : World) : Calls Tryz.prog 30 #[.pointer none] w fun e w' => e = .returned (.tuple #[]) ∧ w = w' := by
  go_enter Tryz.func30, Tryz.ntmps30
  go_wp2
  refine bodyPost_ret (results_none rfl _ _ _) rfl ?_
  exact ⟨rfl, rfl⟩
set_option maxRecDepth 100000 in
theorem cCrash0 (k : Int) (w : World) : Calls Tryz.prog 12 #[.pointer none, .int .i64 k] w fun e w' => e = .returned (.tuple #[]) ∧ w = w' := by
  go_enter Tryz.func12, Tryz.ntmps12
  go_wp2
  refine bodyPost_ret (results_none rfl _ _ _) rfl ?_
  exact ⟨rfl, rfl⟩
set_option maxRecDepth 100000 in
theorem cAppend0 (v : Value) (w : World) : Calls Tryz.prog 33 #[.pointer none, v] w fun e w' => e = .returned (.int .i64 1) ∧ w = w' := by
  go_enter Tryz.func33, Tryz.ntmps33
  go_wp2
  go_ret
  exact ⟨rfl, rfl⟩
set_option maxRecDepth 100000 in
theorem cCut0 (n : Int) (w : World) : Calls Tryz.prog 23 #[.pointer none, .int .i64 n] w fun e w' => e = .returned (.int .i64 1) ∧ w = w' := by
  go_enter Tryz.func23, Tryz.ntmps23
  go_wp2
  go_ret
  exact ⟨rfl, rfl⟩
set_option maxRecDepth 100000 in
theorem cBytes0 (w : World) : Calls Tryz.prog 20 #[.pointer none] w fun e w' => e = .returned (.slice none 0 0) ∧ w = w' := by
  go_enter Tryz.func20, Tryz.ntmps20
  go_wp2
  go_ret
  exact ⟨rfl, rfl⟩
set_option maxRecDepth 100000 in
theorem cLeft0 (w : World) : Calls Tryz.prog 57 #[.pointer none] w fun e w' => e = .returned (.int .i64 0) ∧ w = w' := by
  go_enter Tryz.func57, Tryz.ntmps57
  go_wp2
  go_ret
  exact ⟨rfl, rfl⟩
/-- May a disk have so much room? -/
def roomB (room : Int) : Bool := decide (0 ≤ room) && decide (room ≤ 16777216)
set_option maxRecDepth 100000 in
theorem cNew_no (room : Int) (h : roomB room = false) (w : World) : Calls Tryz.prog 6 #[.int .i64 room] w fun e w' => e = .returned (.tuple #[.pointer none, .int .i64 1]) ∧ w = w' := by
  by_cases h0 : room < 0
  · clear h
    go_enter Tryz.func6, Tryz.ntmps6
    go_wp2
    go_ret2
    exact ⟨rfl, rfl⟩
  · have h1 : (16777216 : Int) < room := by unfold roomB at h; simp at h; exact h (by omega)
    go_enter Tryz.func6, Tryz.ntmps6
    go_wp2
    go_ret2
    exact ⟨rfl, rfl⟩
set_option maxRecDepth 100000 in
theorem cNew_yes (room : Int) (h : roomB room = true) (w : World) : Calls Tryz.prog 6 #[.int .i64 room] w fun e w' => e = .returned (.tuple #[ptr w.heap.size, .int .i64 0]) ∧ Dk w' w.heap.size room (.slice none 0 0) 0 ∧ Below w.heap.size w w' := by
  have h0 : ¬ room < 0 := by unfold roomB at h; simp at h; omega
  have h1 : ¬ (16777216 : Int) < room := by unfold roomB at h; simp at h; omega
  go_enter Tryz.func6, Tryz.ntmps6
  go_wp2
  go_ret2
  exact ⟨rfl, heap_alloc_new w _, (Below.refl _ w).alloc (Nat.le_refl _) _⟩

set_option maxHeartbeats 800000 in
set_option maxRecDepth 100000 in
theorem cLeft {w : World} {p : Nat} {room s : Int} {v : Value} {l : List UInt8} (h : Dk w p room v s) (hv : SlB w v l) (hr : roomB room = true) (hl : l.length ≤ 1000000) : Calls Tryz.prog 57 #[ptr p] w fun e w' => e = .returned (.int .i64 (room - (l.length : Int))) ∧ Below w.heap.size w w' := by
  obtain ⟨hlt, c0, c1, c2, f0, f1, f2⟩ := h.cells
  obtain ⟨a, cap, rfl, hcap, _⟩ := hv.any
  obtain ⟨n, hn⟩ : ∃ n, n = l.length := ⟨_, rfl⟩
  rw [← hn] at c1 hl ⊢
  unfold roomB at hr
  simp at hr
  have hw : wrap64 (room - (n : Int)) = room - (n : Int) := by unfold wrap64; omega
  clear h hv hcap hn f0 f1 f2
  go_enter Tryz.func57, Tryz.ntmps57
  go_wp2
  go_quiet (fail)
  go_wp2
  go_ret
  exact ⟨rfl, belowDrewN (Below.refl _ w) _⟩

set_option maxHeartbeats 800000 in
set_option maxRecDepth 100000 in
theorem cSync {w : World} {p : Nat} {room s : Int} {v : Value} {l : List UInt8} (h : Dk w p room v s) (hv : SlB w v l) : Calls Tryz.prog 30 #[ptr p] w fun e w' => e = .returned (.tuple #[]) ∧ Dk w' p room v l.length ∧ w.grownBy w' (some p) := by
  obtain ⟨hlt, c0, c1, c2, f0, f1, f2⟩ := h.cells
  obtain ⟨a, cap, rfl, hcap, _⟩ := hv.any
  have HP := hid h
  clear h hv hcap
  go_enter Tryz.func30, Tryz.ntmps30
  go_wp2
  go_end0
  exact ⟨rfl, HP.out.set2, grownSet _ _ _⟩

/-- The first k of a slice's elements. -/
theorem cut_run (a : Option Addr) (n cap k : Nat) (hk : k ≤ cap) (W : World) : (Instr.slice 63 (.slice a n cap) none (some (.int .i64 (k : Int))) none).run Tryz.prog W = .ok (.slice a k cap) W := by
  have hs : (sizeOf (Tryz.prog.elem 63)).run Tryz.prog W = .ok 1 W := by
    obtain ⟨i0, hi, hz0, hz1, hz2⟩ := info_parts Tryz.infoB
    rw [show Tryz.prog.elem 63 = 5 from by kernel_rfl]
    simp [sizeOf, typeInfo, hi, hz1]
  rw [run_slice_h (P := Tryz.prog) (w := W) 63 a n cap (by kernel_rfl) .i64 (k : Int) (by omega) (by omega), hs]
  show Result.ok (sliced a 0 k cap 1) W = _
  unfold sliced
  have : (if cap = 0 then a else a.map (·.add (0 * 1))) = a := by
    split
    · rfl
    · cases a with
      | none => rfl
      | some ad => simp [Addr.add]
  rw [this, Nat.sub_zero, Nat.sub_zero]

set_option maxHeartbeats 800000 in
set_option maxRecDepth 100000 in
theorem cStay {w : World} {p B : Nat} {room s : Int} {v : Value} {l : List UInt8} (h : Dk w p room v s) (ho : OwnB w B v l) (k : Nat) (hk : k ≤ l.length) : Calls Tryz.prog 34 #[ptr p, .int .i64 k] w fun e w' => e = .returned (.tuple #[]) ∧ (∃ v', Dk w' p room v' k ∧ OwnB w' B v' (l.take k) ∧ v'.ownBlock = v.ownBlock) ∧ w.grownBy w' (some p) := by
  obtain ⟨hlt, c0, c1, c2, f0, f1, f2⟩ := h.cells
  obtain ⟨a, cap, rfl, hcap, _⟩ := ho.slb.any
  have hs := cut_run a l.length cap k (by omega)
  have HP := hid h
  have HO := hid (ho.head hk)
  have HA := hid (h.apart (by decide) (ho.head hk))
  clear h ho hcap hk
  go_enter Tryz.func34, Tryz.ntmps34
  go_wp2
  go_end0
  have g : w.grownBy ((w.setCell ⟨p, 1, none⟩ (.slice a k cap)).setCell ⟨p, 2, none⟩ (.int .i64 k)) (some p) := grownTrans (grownSet _ _ _) (grownSet _ _ _)
  exact ⟨rfl, ⟨_, HP.out.set1.set2, HO.out.kept g (.inr HA.out), by cases a <;> rfl⟩, g⟩

/-- How many stay behind a crash. -/
def crashN (n s : Nat) (keep : Int) : Nat := s + (min (max keep 0) ((n : Int) - s)).toNat
set_option maxHeartbeats 1600000 in
set_option maxRecDepth 100000 in
theorem cCrash {w : World} {p B s : Nat} {room : Int} {v : Value} {l : List UInt8} (h : Dk w p room v s) (ho : OwnB w B v l) (hs : s ≤ l.length) (hl : l.length ≤ 1000000) (keep : Int) : Calls Tryz.prog 12 #[ptr p, .int .i64 keep] w fun e w' => e = .returned (.tuple #[]) ∧ (∃ v', Dk w' p room v' (crashN l.length s keep) ∧ OwnB w' B v' (l.take (crashN l.length s keep)) ∧ v'.ownBlock = v.ownBlock) ∧ w.grownBy w' (some p) := by
  have hC := fun (W : World) (hg : w.grownBy W none) => cStay (w := W) (obKept h hg (by simp)) (own_below ho (B := B) (C := w.heap.size) ⟨hg.os, hg.tape, hg.output, hg.size, fun k hk => hg.block k hk (by simp)⟩ (fun k hk => (ho.lt k hk).2)) (crashN l.length s keep) (by unfold crashN; omega)
  obtain ⟨hlt, c0, c1, c2, f0, f1, f2⟩ := h.cells
  obtain ⟨a, cap, rfl, hcap, _⟩ := ho.slb.any
  have HC := hid hC
  obtain ⟨n, hn⟩ : ∃ n, n = l.length := ⟨_, rfl⟩
  have HN := hid hn
  rw [← hn] at c1 hs hl
  obtain ⟨m, hm⟩ : ∃ m, m = crashN l.length s keep := ⟨_, rfl⟩
  rw [← hm] at HC ⊢
  have hmm : (s : Int) + min (max keep 0) ((n : Int) - s) = m := by rw [hm, ← hn]; unfold crashN; omega
  have hw1 : IntKind.i64.wrap ((n : Int) - (s : Int)) = (n : Int) - (s : Int) := by rw [IntKind.wrap_i64]; omega
  have h0 : ¬ (n : Int) - (s : Int) < 0 := by omega
  clear h ho hcap hC hn hm
  by_cases k1 : keep < 0
  · have e : (s : Int) = (m : Int) := by omega
    have E := hid e
    clear hmm e
    go_enter Tryz.func12, Tryz.ntmps12
    go_wp2
    go_still_tail 19, (by kernel_rfl)
    go_wp2_with fail
    rw [E.out]
    go_at_call 34
    refine (HC.out w.drew ⟨rfl, rfl, rfl, Nat.le_refl _, fun k _ _ => rfl⟩).mono ?_
    rintro e w2 ⟨rfl, hx, hg⟩
    have HX := hid (And.intro hx (grownOff hg))
    clear hx hg
    go_wp2_with fail
    go_end0
    exact ⟨rfl, HX.out.1, HX.out.2⟩
  · by_cases k2 : keep ≤ (n : Int) - (s : Int)
    · have e : (s : Int) + keep = (m : Int) := by omega
      have E := hid e
      have hw2 : IntKind.i64.wrap ((s : Int) + keep) = (s : Int) + keep := by rw [IntKind.wrap_i64]; omega
      clear hmm e
      go_enter Tryz.func12, Tryz.ntmps12
      go_wp2
      go_still_tail 19, (by kernel_rfl)
      go_wp2_with fail
      rw [E.out]
      go_at_call 34
      refine (HC.out w.drew ⟨rfl, rfl, rfl, Nat.le_refl _, fun k _ _ => rfl⟩).mono ?_
      rintro e w2 ⟨rfl, hx, hg⟩
      have HX := hid (And.intro hx (grownOff hg))
      clear hx hg
      go_wp2_with fail
      go_end0
      exact ⟨rfl, HX.out.1, HX.out.2⟩
    · have k3 : (n : Int) - (s : Int) < keep := by omega
      have e : (s : Int) + ((n : Int) - (s : Int)) = (m : Int) := by omega
      have E := hid e
      have hw2 : IntKind.i64.wrap ((s : Int) + ((n : Int) - (s : Int))) = (s : Int) + ((n : Int) - (s : Int)) := by rw [IntKind.wrap_i64]; omega
      clear hmm e
      go_enter Tryz.func12, Tryz.ntmps12
      go_wp2
      go_still_tail 19, (by kernel_rfl)
      go_wp2_with fail
      rw [E.out]
      go_at_call 34
      refine (HC.out w.drew ⟨rfl, rfl, rfl, Nat.le_refl _, fun k _ _ => rfl⟩).mono ?_
      rintro e w2 ⟨rfl, hx, hg⟩
      have HX := hid (And.intro hx (grownOff hg))
      clear hx hg
      go_wp2_with fail
      go_end0
      exact ⟨rfl, HX.out.1, HX.out.2⟩

set_option maxHeartbeats 1600000 in
set_option maxRecDepth 100000 in
theorem cCut_no {w : World} {p : Nat} {room s : Int} {v : Value} {l : List UInt8} (h : Dk w p room v s) (hv : SlB w v l) (n : Int) (hn : n < 0 ∨ (l.length : Int) < n) : Calls Tryz.prog 23 #[ptr p, .int .i64 n] w fun e w' => e = .returned (.int .i64 1) ∧ w = w' := by
  obtain ⟨hlt, c0, c1, c2, f0, f1, f2⟩ := h.cells
  obtain ⟨a, cap, rfl, hcap, _⟩ := hv.any
  clear h hv hcap
  by_cases h0 : n < 0
  · clear hn
    go_enter Tryz.func23, Tryz.ntmps23
    go_wp2
    go_ret
    exact ⟨rfl, rfl⟩
  · have h1 : (l.length : Int) < n := by omega
    clear hn
    go_enter Tryz.func23, Tryz.ntmps23
    go_wp2
    go_ret
    exact ⟨rfl, rfl⟩
set_option maxHeartbeats 1600000 in
set_option maxRecDepth 100000 in
theorem cCut_yes {w : World} {p B : Nat} {room s : Int} {v : Value} {l : List UInt8} (h : Dk w p room v s) (ho : OwnB w B v l) (k : Nat) (hk : k ≤ l.length) : Calls Tryz.prog 23 #[ptr p, .int .i64 k] w fun e w' => e = .returned (.int .i64 0) ∧ (∃ v', Dk w' p room v' k ∧ OwnB w' B v' (l.take k) ∧ v'.ownBlock = v.ownBlock) ∧ w.grownBy w' (some p) := by
  have HC := hid (cStay h ho k hk)
  obtain ⟨hlt, c0, c1, c2, f0, f1, f2⟩ := h.cells
  obtain ⟨a, cap, rfl, hcap, _⟩ := ho.slb.any
  have h1 : ¬ (l.length : Int) < (k : Int) := by omega
  clear h ho hcap
  go_enter Tryz.func23, Tryz.ntmps23
  go_wp2_with fail
  go_at_call 34
  refine HC.out.mono ?_
  rintro e w2 ⟨rfl, hx, hg⟩
  have HX := hid (And.intro hx hg)
  clear hx hg
  go_wp2_with fail
  go_ret
  exact ⟨rfl, HX.out.1, HX.out.2⟩

set_option maxHeartbeats 1600000 in
set_option maxRecDepth 100000 in
theorem cAppend_no {w : World} {p : Nat} {room s : Int} {v vb : Value} {l b : List UInt8} (h : Dk w p room v s) (hv : SlB w v l) (hb : SlB w vb b) (hr : roomB room = true) (hl : l.length ≤ 1000000) (hf : room - (l.length : Int) < (b.length : Int)) : Calls Tryz.prog 33 #[ptr p, vb] w fun e w' => e = .returned (.int .i64 4) ∧ Below w.heap.size w w' := by
  have HL := hid (cLeft h hv hr hl)
  obtain ⟨hlt, c0, c1, c2, f0, f1, f2⟩ := h.cells
  obtain ⟨a, cap, rfl, hcap, _⟩ := hb.any
  clear h hv hcap hb hr
  go_enter Tryz.func33, Tryz.ntmps33
  go_wp2_with fail
  go_at_call 57
  refine HL.out.mono ?_
  rintro e w2 ⟨rfl, hx⟩
  go_wp2_with fail
  go_ret
  exact ⟨rfl, hx⟩
set_option maxHeartbeats 1600000 in
set_option maxRecDepth 100000 in
theorem cAppend_yes {w : World} {p B : Nat} {room s : Int} {v vb : Value} {l b : List UInt8} (h : Dk w p room v s) (hv : OwnB w B v l) (hb : SlB w vb b) (hB : B ≤ w.heap.size) (hr : roomB room = true) (hl : l.length + b.length ≤ 1000000) (hf : ¬ room - (l.length : Int) < (b.length : Int)) :
    Calls Tryz.prog 33 #[ptr p, vb] w fun e w' => e = .returned (.int .i64 0) ∧ (∃ v', Dk w' p room v' s ∧ OwnB w' B v' (l ++ b)) ∧ (∃ W, w.grownBy W v.ownBlock ∧ W.grownBy w' (some p)) := by
  have HL := hid (cLeft h hv.slb hr (by omega))
  have HP := hid h
  have HV := hid hv
  have HVB := hid hb
  have HH := hid (And.intro hB hl)
  obtain ⟨a, cap, rfl, hcap, _⟩ := hb.any
  obtain ⟨a', cap', rfl, hcap', _⟩ := hv.slb.any
  clear h hv hcap hb hr hcap'
  go_enter Tryz.func33, Tryz.ntmps33
  go_wp2_with fail
  go_at_call 57
  refine HL.out.mono ?_
  rintro e w2 ⟨rfl, hx⟩
  have HB2 := hid hx
  have hq := obOn HP.out hx (Array.getElem?_eq_some_iff.1 HP.out).1
  have HQ := hid hq
  obtain ⟨hlt, c0, c1, c2, f0, f1, f2⟩ := Tri.cells hq
  have HV2 := hid (own_below HV.out hx (fun k hk => (HV.out.lt k hk).2))
  have HVB2 := hid (HVB.out.on hx)
  have hsz := hx.size
  have HA := hid (Tri.apart hq (by decide) HV2.out)
  clear hx hq
  go_wp2_with (at_builtin; refine wpList_append_slb rfl _ _ rfl B _ l rfl HV2.out _ b rfl HVB2.out HH.out.2 (by have := HH.out.1; omega) ?_; intro v' w3 ho' hg; have HO := hid ho'; have HG : Hid (w2.grownBy w3 (Value.slice a' l.length cap').ownBlock) := hid hg; have hq3 := obKept HQ.out hg HA.out; have HA3 := hid (Tri.apart hq3 (by decide) ho'); have HQ3 := hid hq3; obtain ⟨hlt3, d0, d1, d2, g0, g1, g2⟩ := Tri.cells hq3; clear hq3; obtain ⟨ga, ca, na, rfl, hna⟩ := ho'.asSlice; clear ho' hg hna)
  go_ret
  exact ⟨rfl, ⟨_, Tri.set1 HQ3.out, HO.out.kept (grownSet _ _ _) (.inr HA3.out)⟩, _, grownTrans (grownBelow HB2.out _) HG.out, grownSet _ _ _⟩

end Go.Proofs.YtpkkmfppdhjpkaaGreat
/- The program's disk: what is told of it, another one with the same. -/
namespace Go.Proofs.YtpkkmfppdhjpkaaGreat
set_option linter.unusedVariables false
open Go.RowKit
open Go.Lib (hid)
set_option maxHeartbeats 1600000 in
set_option maxRecDepth 100000 in
theorem cBytes {w : World} {p : Nat} {room s : Int} {v : Value} {l : List UInt8} (h : Dk w p room v s) (hv : SlB w v l) (hl : l.length ≤ 1000000) : Calls Tryz.prog 20 #[ptr p] w fun e w' => ∃ r, e = .returned r ∧ OwnB w' w.heap.size r l ∧ Below w.heap.size w w' := by
  have HP := hid h
  have HV := hid hv
  obtain ⟨hlt, c0, c1, c2, f0, f1, f2⟩ := h.cells
  obtain ⟨a, cap, rfl, hcap, _⟩ := hv.any
  obtain ⟨n, hn⟩ : ∃ n, n = l.length := ⟨_, rfl⟩
  rw [← hn] at c1 hl HV HP
  have HN := hid hn
  clear h hv hcap hn c0 c2 f0 f1 f2
  obtain ⟨i0, hi, hz0, hz1, hz2⟩ := info_parts Tryz.infoB
  have HM1 : Hid (i0.bytes * n ≤ 281474976710656) := hid (by rw [hz2]; omega)
  have HM2 : Hid (n ≤ maxLen) := hid (by unfold maxLen; omega)
  have HL1 : Hid ((octs l).length = Nat.min n n) := hid (by rw [octs_len, ← HN.out]; simp)
  have HL2 : Hid (∀ W : World, SlB W (.slice a n cap) l → 0 < (octs l).length → ∃ ad, a = some ad ∧ ∀ j v, (octs l)[j]? = some v → W.cell? (ad.add j) = some v) := hid (fun W hW h0 => by
    rcases hW.src with ⟨_, e⟩ | ⟨ad, c, e, hc, _⟩
    · rw [e] at h0; simp [octs] at h0
    · injection e with e1 e2 e3
      exact ⟨ad, e1, hc⟩)
  have HI : Hid ((Tryz.prog.info? 5).map (·.size) = some 1) := hid (by kernel_rfl)
  have HL3 : Hid (∀ cur : List Value, cur.length = n → 0 + (octs l).length ≤ cur.length) := hid (fun cur h => by rw [octs_len, h, ← HN.out]; omega)
  go_enter Tryz.func20, Tryz.ntmps20
  go_wp2_with (first
    | (at_make; refine wpList_make_full w rfl _ _ 63 rfl w.heap.size 5 i0 _ 1 Tryz.underlying63 hi hz0 hz1 _ _ _ _ n rfl rfl rfl rfl HM1.out HM2.out (Nat.le_refl _) ?_; intro w1 hr hg; have hb := belowNone hg; have HB := hid hb; have d1 := (hb.cell (p := ⟨p, 1, none⟩) hlt).trans c1; have hq := obOn HP.out hb hlt; have HS := hid (HV.out.on hb); obtain ⟨cur, hcur, hlen, _, _⟩ := row_of hr; have HC := hid (And.intro hcur hlen); clear hr hg hb hcur hlen hq)
    | (with_reducible refine wpList_copy_splice rfl _ _ _ _ rfl 5 Tryz.underlying63 HI.out (some ⟨w.heap.size, 0, none⟩) a n n n cap rfl rfl w.heap.size 0 cur 5 HC.out.1 (octs l) ?n1 ?n2 ?n3 (octs_one _) w.heap.size w HB.out (Nat.le_refl _) ?_; (case n1 => exact HL1.out); (case n2 => exact fun h0 => ⟨rfl, HL2.out _ HS.out h0⟩); (case n3 => exact HL3.out _ HC.out.2); intro w2 HG2 hb2; have HB2 := hid hb2; clear hb2))
  go_ret
  exact ⟨_, rfl, own_row (by rw [← splice_all (cur := cur) (cs := octs l) (by rw [HC.out.2, octs_len, HN.out])]; exact HG2.out) (Nat.le_refl _) HN.out.symm HM2.out, HB2.out⟩

end Go.Proofs.YtpkkmfppdhjpkaaGreat
