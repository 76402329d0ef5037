/- The law's step, way by way. -/
import Derived.Test.YtiloeejpjjdaeaaDStep0
import Derived.Deep.RegionHeld3
import Derived.Deep.Cut
namespace Go.Proofs.Ytiloeejpjjdaeaa
set_option linter.unusedVariables false
open Go.RowKit
open Go.Lib (hid)

set_option maxHeartbeats 3200000 in
set_option maxRecDepth 100000 in
theorem step_cut {w0 w : World} {p q N s : Nat} {room : Int} {l : List UInt8} {x : Av} (hT : Two w w0.heap.size N p q room l s) (hb : Below w0.heap.size w0 w) (hx : SlB w0 x.s.v x.b) (hr : roomB room = true) (hl : l.length + x.b.length ≤ 1000000) (hk : x.k % 5 = 4) (hk8 : x.k < 256) (hf : ¬ (x.n < 0 ∨ (l.length : Int) < x.n)) :
    Calls Try.prog 17 #[ptr p, ptr q, .agg x.arr] w (StepPost w0 w N p q room l x.b) := by
  obtain ⟨k, ⟨sa, sn, sc⟩, b, z⟩ := x
  dsimp only at *
  have hBw := hb.size
  have hb1 := (Below.refl _ w).alloc (Nat.le_refl _) (.cells #[.int .u8 k, .slice sa sn sc, .int .i64 z] 42)
  have hbx : (w.alloc (.cells #[.int .u8 k, .slice sa sn sc, .int .i64 z] 42)).heap[w.heap.size]? = some (.cells #[.int .u8 k, .slice sa sn sc, .int .i64 z] 42) := heap_alloc_new w _
  obtain ⟨W1, hW1⟩ : ∃ W, W = w.alloc (.cells #[.int .u8 k, .slice sa sn sc, .int .i64 z] 42) := ⟨_, rfl⟩
  have HW := hid hW1
  go_enter Try.func17, Try.ntmps17
  rw [← hW1] at hb1 hbx
  have HN : Hid (w.heap.size < W1.heap.size ∧ N ≤ w.heap.size) := hid ⟨(Array.getElem?_eq_some_iff.1 hbx).1, hT.choose_spec.choose_spec.2.2.2.2.2.2.2.2.2.2.1⟩
  have HB1 := hid hb1
  have HBX := hid hbx
  have HT1 := hid (hT.on hb1)
  have HX1 : Hid (SlB W1 (.slice sa sn sc) b) := hid (hx.on (hb.trans (hb1.mono hBw)))
  have HX0 : Hid (SlB w0 (.slice sa sn sc) b) := hid hx
  have HB01 := hid (hb.trans (hb1.mono hBw))
  have HBW := hid hBw
  have HL := hid hl
  have HR := hid hr
  have hk1 : (k : Int) % 5 = 4 := by omega
  have hk2 : (k : Int).tmod 5 = 4 := by rw [Int.tmod_eq_emod_of_nonneg (by omega)]; omega
  obtain ⟨v, u, hD, hR, hO, hS, hu, hv, e1, e2, e3, e4, e5, e6⟩ := HT1.out
  have HT := hid (And.intro hD (And.intro hR (And.intro hO (And.intro hS (And.intro hu (And.intro hv (And.intro e1 (And.intro e2 (And.intro e3 (And.intro e4 (And.intro e5 e6)))))))))))
  clear hT hb hx hr hl hk hbx hb1 hW1 hBw hD hR hO hS hu hv e1 e2 e3 e4 e5 e6
  obtain ⟨m, rfl⟩ : ∃ m : Nat, z = m := ⟨z.toNat, by omega⟩
  have HM : Hid (m ≤ l.length) := hid (by omega)
  clear hf
  go_wp2_with fail
  rw [← HW.out]
  go_at_call 12
  refine (cCut_yes HT.out.1 HT.out.2.2.1 m HM.out).mono ?_
  rintro e w2 ⟨rfl, ⟨v2, hD2, hO2, hv2⟩, hg2⟩
  have HD2 := hid hD2
  have HO2 := hid hO2
  have HV2 := hid hv2
  have HG := hid hg2
  have HR2 := hid (obKept HT.out.2.1 hg2 (fun e => dk_ne HT.out.1 HT.out.2.1 (by injection e)))
  have HS2 := hid (HT.out.2.2.2.1.kept hg2 (fun k hk e => (HT.out.2.2.2.2.1 k hk).2.2 (by injection e with e; exact e.symm)))
  clear hD2 hO2 hv2 hg2
  have hbx2 : w2.heap[w.heap.size]? = some (.cells #[.int .u8 k, .slice sa sn sc, .int .i64 (m : Int)] 42) := obKept HBX.out HG.out (fun e => by have : p = w.heap.size := (by injection e); have := HT.out.2.2.2.2.2.2.2.1; have := HN.out; omega)
  have box0 : w2.cell? ⟨w.heap.size, 0, none⟩ = some (.int .u8 k) := cellAt' hbx2 0
  have box1 : w2.cell? ⟨w.heap.size, 1, none⟩ = some (.slice sa sn sc) := cellAt' hbx2 1
  have box2 : w2.cell? ⟨w.heap.size, 2, none⟩ = some (.int .i64 (m : Int)) := cellAt' hbx2 2
  clear hbx2
  go_wp2_with fail
  go_at_call 21
  refine (rCut_yes HR2.out HS2.out (fun k hk => (HT.out.2.2.2.2.1 k hk).2.1) m HM.out).mono ?_
  rintro e w3 ⟨rfl, ⟨u3, hR3, hS3, hu3⟩, hg3⟩
  have HTC := hid (two_fewer HT.out.1 HT.out.2.1 HT.out.2.2.1 HT.out.2.2.2.2.2.2.1 HT.out.2.2.2.2.2.2.2.1 HT.out.2.2.2.2.2.2.2.2.1 HT.out.2.2.2.2.2.2.2.2.2.1 HT.out.2.2.2.2.1 HT.out.2.2.2.2.2.1 HD2.out HO2.out (.inr HV2.out) HG.out hR3 hS3 hu3 hg3 (by rw [List.length_take]; have := HT.out.2.2.2.2.2.2.2.2.2.2.2; have hc := HM.out; omega))
  clear hR3 hS3 hu3 hg3
  clear box0 box1 box2
  have HL3 : Hid ((l.take m).length ≤ 1000000) := hid (by have := HL.out; rw [List.length_take]; omega)
  have HL4 : Hid ((l.take m).length ≤ l.length + b.length) := hid (by have := HL.out; rw [List.length_take]; omega)
  obtain ⟨L, S, HTC, HL3, HL4⟩ : ∃ (L : List UInt8) (S : Nat), Hid (Two w3 w0.heap.size w3.heap.size p q room L S ∧ Chg w0.heap.size N W1 w3) ∧ Hid (L.length ≤ 1000000) ∧ Hid (L.length ≤ l.length + b.length) := ⟨l.take m, m, HTC, HL3, HL4⟩
  clear HT HT1 HX1 HX0 HBX
  obtain ⟨v3, u3, hD, hR, hO, hS, hu, hv, e1, e2, e3, e4, e5, e6⟩ := HTC.out.1
  have hltp := (Array.getElem?_eq_some_iff.1 hD).1
  have hltq := (Array.getElem?_eq_some_iff.1 hR).1
  obtain ⟨a3, cap3, rfl, _, _⟩ := hS.any
  obtain ⟨_, m0, m1, m2, _, _, _⟩ := hR.cells
  have hcu := convB hS
  have HCB := hid (fun (W : World) (hb : Below w3.heap.size w3 W) => cBytes (obOn hD hb hltp) (hO.slb.on hb) HL3.out)
  have HCS := hid (fun (W : World) (hb : Below w3.heap.size w3 W) => cSynced (obOn hD hb hltp))
  have HCL := hid (fun (W : World) (hb : Below w3.heap.size w3 W) => cLeft (obOn hD hb hltp) (hO.slb.on hb) HR.out HL3.out)
  have HK := hid (fun (W' : World) (hb : Below w3.heap.size w3 W') => (show W'.cell? ⟨q, 0, none⟩ = some (.int .i64 room) ∧ W'.cell? ⟨q, 1, none⟩ = some (.slice a3 L.length cap3) ∧ W'.cell? ⟨q, 2, none⟩ = some (.int .i64 S) ∧ (convert 33 9 (.slice a3 L.length cap3)).run Try.prog W' = .ok (strB L) W' from ⟨(hb.cell (p := ⟨q, 0, none⟩) hltq).trans m0, (hb.cell (p := ⟨q, 1, none⟩) hltq).trans m1, (hb.cell (p := ⟨q, 2, none⟩) hltq).trans m2, convB (hS.on hb)⟩))
  have hS0 := HK.out w3.drew (belowDrew (Below.refl _ w3))
  have hwr : wrap64 (room - (L.length : Int)) = room - (L.length : Int) := by
    have h1 := HR.out
    have h2 := HL3.out
    unfold roomB at h1
    simp at h1
    unfold wrap64; omega
  have hwr2 : IntKind.i64.wrap (room - (L.length : Int)) = room - (L.length : Int) := by
    unfold wrap64 at hwr; rw [IntKind.wrap_i64]; exact hwr
  clear hD hR hO hS hu hv e1 e2 e3 e4 e5 e6 m0 m1 m2 hcu
  go_wp2_with fail
  go_region_held (fun W' => W'.cell? ⟨q, 0, none⟩ = some (.int .i64 room) ∧ W'.cell? ⟨q, 1, none⟩ = some (.slice a3 L.length cap3) ∧ W'.cell? ⟨q, 2, none⟩ = some (.int .i64 S) ∧ (convert 33 9 (.slice a3 L.length cap3)).run Try.prog W' = .ok (strB L) W') (first | exact hS0 | assumption) (first
    | (go_at_call 13; (
        refine (HCB.out _ (belowDrew (Below.refl _ w3))).mono ?_
        rintro e w9 ⟨r, rfl, ho, hB9⟩
        obtain ⟨g9, c9, n9, rfl, hn9⟩ := ho.asSlice
        clear hn9
        have hcr := convB ho.slb
        have hb9 : Below w3.heap.size w3 w9 := (belowDrew (Below.refl _ w3)).trans hB9
        have hS9 := HK.out w9 hb9
        have HB9 := hid hb9
        clear ho hB9 hb9))
    | (go_at_call 14; refine (HCS.out _ HB9.out).mono ?_; rintro e w8 ⟨rfl, rfl⟩)
    | (go_at_call 15; refine (HCL.out _ HB9.out).mono ?_; rintro e w10 ⟨rfl, hB10⟩; have hS10 := HK.out w10 (HB9.out.trans (hB10.mono HB9.out.size)); have HB10 := hid (HB9.out.trans (hB10.mono HB9.out.size)); clear hB10))
  all_goals (
    go_wp2
    go_ret
    exact step_post HB1.out HTC.out.1 HTC.out.2 HL4.out HB10.out)

set_option maxHeartbeats 3200000 in
set_option maxRecDepth 100000 in
theorem step_nocut {w0 w : World} {p q N s : Nat} {room : Int} {l : List UInt8} {x : Av} (hT : Two w w0.heap.size N p q room l s) (hb : Below w0.heap.size w0 w) (hx : SlB w0 x.s.v x.b) (hr : roomB room = true) (hl : l.length + x.b.length ≤ 1000000) (hk : x.k % 5 = 4) (hk8 : x.k < 256) (hf : x.n < 0 ∨ (l.length : Int) < x.n) :
    Calls Try.prog 17 #[ptr p, ptr q, .agg x.arr] w (StepPost w0 w N p q room l x.b) := by
  obtain ⟨k, ⟨sa, sn, sc⟩, b, z⟩ := x
  dsimp only at *
  have hBw := hb.size
  have hb1 := (Below.refl _ w).alloc (Nat.le_refl _) (.cells #[.int .u8 k, .slice sa sn sc, .int .i64 z] 42)
  have hbx : (w.alloc (.cells #[.int .u8 k, .slice sa sn sc, .int .i64 z] 42)).heap[w.heap.size]? = some (.cells #[.int .u8 k, .slice sa sn sc, .int .i64 z] 42) := heap_alloc_new w _
  obtain ⟨W1, hW1⟩ : ∃ W, W = w.alloc (.cells #[.int .u8 k, .slice sa sn sc, .int .i64 z] 42) := ⟨_, rfl⟩
  have HW := hid hW1
  go_enter Try.func17, Try.ntmps17
  rw [← hW1] at hb1 hbx
  have HN : Hid (w.heap.size < W1.heap.size ∧ N ≤ w.heap.size) := hid ⟨(Array.getElem?_eq_some_iff.1 hbx).1, hT.choose_spec.choose_spec.2.2.2.2.2.2.2.2.2.2.1⟩
  have HB1 := hid hb1
  have HBX := hid hbx
  have HT1 := hid (hT.on hb1)
  have HX1 : Hid (SlB W1 (.slice sa sn sc) b) := hid (hx.on (hb.trans (hb1.mono hBw)))
  have HX0 : Hid (SlB w0 (.slice sa sn sc) b) := hid hx
  have HB01 := hid (hb.trans (hb1.mono hBw))
  have HBW := hid hBw
  have HL := hid hl
  have HR := hid hr
  have hk1 : (k : Int) % 5 = 4 := by omega
  have hk2 : (k : Int).tmod 5 = 4 := by rw [Int.tmod_eq_emod_of_nonneg (by omega)]; omega
  obtain ⟨v, u, hD, hR, hO, hS, hu, hv, e1, e2, e3, e4, e5, e6⟩ := HT1.out
  have HT := hid (And.intro hD (And.intro hR (And.intro hO (And.intro hS (And.intro hu (And.intro hv (And.intro e1 (And.intro e2 (And.intro e3 (And.intro e4 (And.intro e5 e6)))))))))))
  clear hT hb hx hr hl hk hbx hb1 hW1 hBw hD hR hO hS hu hv e1 e2 e3 e4 e5 e6
  have HF := hid hf
  clear hf
  go_wp2_with fail
  rw [← HW.out]
  go_at_call 12
  refine (cCut_no HT.out.1 HT.out.2.2.1.slb z HF.out).mono ?_
  rintro e w2 ⟨rfl, rfl⟩
  have box0 : W1.cell? ⟨w.heap.size, 0, none⟩ = some (.int .u8 k) := cellAt' HBX.out 0
  have box1 : W1.cell? ⟨w.heap.size, 1, none⟩ = some (.slice sa sn sc) := cellAt' HBX.out 1
  have box2 : W1.cell? ⟨w.heap.size, 2, none⟩ = some (.int .i64 z) := cellAt' HBX.out 2
  go_wp2_with fail
  go_at_call 21
  refine (rCut_no HT.out.2.1 HT.out.2.2.2.1 z HF.out).mono ?_
  rintro e w2 ⟨rfl, rfl⟩
  obtain ⟨w3, hw3⟩ : ∃ W, W = W1 := ⟨_, rfl⟩
  have HTC : Hid (Two w3 w0.heap.size w3.heap.size p q room l s ∧ Chg w0.heap.size N W1 w3) := hid (by rw [hw3]; exact two_same HT1.out (Below.refl _ _) (Below.refl _ _))
  rw [← hw3]
  clear box0 box1 box2 hw3
  have HL3 : Hid ((l).length ≤ 1000000) := hid (by have := HL.out; omega)
  have HL4 : Hid ((l).length ≤ l.length + b.length) := hid (by have := HL.out; omega)
  obtain ⟨L, S, HTC, HL3, HL4⟩ : ∃ (L : List UInt8) (S : Nat), Hid (Two w3 w0.heap.size w3.heap.size p q room L S ∧ Chg w0.heap.size N W1 w3) ∧ Hid (L.length ≤ 1000000) ∧ Hid (L.length ≤ l.length + b.length) := ⟨l, s, HTC, HL3, HL4⟩
  clear HT HT1 HX1 HX0 HBX
  obtain ⟨v3, u3, hD, hR, hO, hS, hu, hv, e1, e2, e3, e4, e5, e6⟩ := HTC.out.1
  have hltp := (Array.getElem?_eq_some_iff.1 hD).1
  have hltq := (Array.getElem?_eq_some_iff.1 hR).1
  obtain ⟨a3, cap3, rfl, _, _⟩ := hS.any
  obtain ⟨_, m0, m1, m2, _, _, _⟩ := hR.cells
  have hcu := convB hS
  have HCB := hid (fun (W : World) (hb : Below w3.heap.size w3 W) => cBytes (obOn hD hb hltp) (hO.slb.on hb) HL3.out)
  have HCS := hid (fun (W : World) (hb : Below w3.heap.size w3 W) => cSynced (obOn hD hb hltp))
  have HCL := hid (fun (W : World) (hb : Below w3.heap.size w3 W) => cLeft (obOn hD hb hltp) (hO.slb.on hb) HR.out HL3.out)
  have HK := hid (fun (W' : World) (hb : Below w3.heap.size w3 W') => (show W'.cell? ⟨q, 0, none⟩ = some (.int .i64 room) ∧ W'.cell? ⟨q, 1, none⟩ = some (.slice a3 L.length cap3) ∧ W'.cell? ⟨q, 2, none⟩ = some (.int .i64 S) ∧ (convert 33 9 (.slice a3 L.length cap3)).run Try.prog W' = .ok (strB L) W' from ⟨(hb.cell (p := ⟨q, 0, none⟩) hltq).trans m0, (hb.cell (p := ⟨q, 1, none⟩) hltq).trans m1, (hb.cell (p := ⟨q, 2, none⟩) hltq).trans m2, convB (hS.on hb)⟩))
  have hS0 := HK.out w3.drew (belowDrew (Below.refl _ w3))
  have hwr : wrap64 (room - (L.length : Int)) = room - (L.length : Int) := by
    have h1 := HR.out
    have h2 := HL3.out
    unfold roomB at h1
    simp at h1
    unfold wrap64; omega
  have hwr2 : IntKind.i64.wrap (room - (L.length : Int)) = room - (L.length : Int) := by
    unfold wrap64 at hwr; rw [IntKind.wrap_i64]; exact hwr
  clear hD hR hO hS hu hv e1 e2 e3 e4 e5 e6 m0 m1 m2 hcu
  go_wp2_with fail
  go_region_held (fun W' => W'.cell? ⟨q, 0, none⟩ = some (.int .i64 room) ∧ W'.cell? ⟨q, 1, none⟩ = some (.slice a3 L.length cap3) ∧ W'.cell? ⟨q, 2, none⟩ = some (.int .i64 S) ∧ (convert 33 9 (.slice a3 L.length cap3)).run Try.prog W' = .ok (strB L) W') (first | exact hS0 | assumption) (first
    | (go_at_call 13; (
        refine (HCB.out _ (belowDrew (Below.refl _ w3))).mono ?_
        rintro e w9 ⟨r, rfl, ho, hB9⟩
        obtain ⟨g9, c9, n9, rfl, hn9⟩ := ho.asSlice
        clear hn9
        have hcr := convB ho.slb
        have hb9 : Below w3.heap.size w3 w9 := (belowDrew (Below.refl _ w3)).trans hB9
        have hS9 := HK.out w9 hb9
        have HB9 := hid hb9
        clear ho hB9 hb9))
    | (go_at_call 14; refine (HCS.out _ HB9.out).mono ?_; rintro e w8 ⟨rfl, rfl⟩)
    | (go_at_call 15; refine (HCL.out _ HB9.out).mono ?_; rintro e w10 ⟨rfl, hB10⟩; have hS10 := HK.out w10 (HB9.out.trans (hB10.mono HB9.out.size)); have HB10 := hid (HB9.out.trans (hB10.mono HB9.out.size)); clear hB10))
  all_goals (
    go_wp2
    go_ret
    exact step_post HB1.out HTC.out.1 HTC.out.2 HL4.out HB10.out)
end Go.Proofs.Ytiloeejpjjdaeaa
