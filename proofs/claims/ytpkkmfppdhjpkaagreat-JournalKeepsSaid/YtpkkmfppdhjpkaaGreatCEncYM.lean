import Derived.Test.YtpkkmfppdhjpkaaGreatGa19
import Derived.Test.YtpkkmfppdhjpkaaGreatGa20
import Derived.Deep.RegionHeld3
/- An entry's bytes: the program's Encode, of one that may be. -/

namespace Go.Proofs.YtpkkmfppdhjpkaaGreat
set_option linter.unusedVariables false
open Go.RowKit
open Go.Lib (hid)

theorem SlN.lit1 {w : World} {T : TypeId} {q : Nat} {x : Int} (hq : q = w.heap.size) : SlN (w.alloc (.cells #[.int .i64 x] T)) (.slice (some ⟨q, 0, none⟩) 1 1) [x] := by
  subst hq
  refine ⟨w.heap.size, 0, 1, _, rfl, fun _ => rfl, fun j y hy => ?_, fun _ => by simp⟩
  rw [World.cell?_alloc_new, Nat.zero_add, List.getElem?_toArray]
  match j, hy with
  | 0, hy => cases hy; rfl
  | _ + 1, hy => cases hy
theorem SlN.lit2 {w : World} {T : TypeId} {q : Nat} {x y : Int} (hq : q = w.heap.size) : SlN (w.alloc (.cells #[.int .i64 x, .int .i64 y] T)) (.slice (some ⟨q, 0, none⟩) 2 2) [x, y] := by
  subst hq
  refine ⟨w.heap.size, 0, 2, _, rfl, fun _ => rfl, fun j z hz => ?_, fun _ => by simp⟩
  rw [World.cell?_alloc_new, Nat.zero_add, List.getElem?_toArray]
  match j, hz with
  | 0, hz => cases hz; rfl
  | 1, hz => cases hz; rfl
  | _ + 2, hz => cases hz
theorem SlN.lit3 {w : World} {T : TypeId} {q : Nat} {x y z : Int} (hq : q = w.heap.size) : SlN (w.alloc (.cells #[.int .i64 x, .int .i64 y, .int .i64 z] T)) (.slice (some ⟨q, 0, none⟩) 3 3) [x, y, z] := by
  subst hq
  refine ⟨w.heap.size, 0, 3, _, rfl, fun _ => rfl, fun j u hu => ?_, fun _ => by simp⟩
  rw [World.cell?_alloc_new, Nat.zero_add, List.getElem?_toArray]
  match j, hu with
  | 0, hu => cases hu; rfl
  | 1, hu => cases hu; rfl
  | 2, hu => cases hu; rfl
  | _ + 3, hu => cases hu
theorem putN0 {v : Value} {l : List Int} {w : World} (h : SlN w v l) (hl : l.length ≤ 3000) (hf : ∀ x ∈ l, 0 ≤ x ∧ x ≤ 1099511627776) : Calls Tryz.prog 53 #[v] w fun e w' => ∃ r, e = .returned (.tuple #[r, .int .i64 0]) ∧ OwnB w' w.heap.size r (putAll l) ∧ Below w.heap.size w w' := by
  have := cPutN h hl
  rw [(put_fine hf).1, (put_fine hf).2] at this
  exact this
theorem putV0 {v : Value} {cs : List C7} {w : World} {t : Int} (h : Sl w v cs) (hl : cs.length ≤ 428) (hf : setB cs = true ∧ 0 ≤ t ∧ t ≤ 1099511627776) : Calls Tryz.prog 71 #[.agg #[.int .i64 t, v]] w fun e w' => ∃ r, e = .returned (.tuple #[r, .int .i64 0]) ∧ OwnB w' w.heap.size r (valueBytes t cs) ∧ Below w.heap.size w w' := by
  have := cPutValueL t h hl
  rw [(putV_fine hf).1, (putV_fine hf).2] at this
  exact this
def EncS (w w5 : World) (b c : Bool) (W : World) : Prop := w5.heap.size ≤ W.heap.size ∧ Below w5.heap.size w5 W ∧ W.cell? ⟨w.heap.size, 15, none⟩ = some (.bool b) ∧ W.cell? ⟨w.heap.size, 16, none⟩ = some (.bool c)
theorem EncS.on {w w5 W W' : World} {b c : Bool} (h : EncS w w5 b c W) (hq : w.heap.size < w5.heap.size) (hb : Below w5.heap.size W W') : EncS w w5 b c W' :=
  ⟨Nat.le_trans h.1 hb.size, h.2.1.trans hb, (hb.cell (p := ⟨w.heap.size, 15, none⟩) hq).trans h.2.2.1, (hb.cell (p := ⟨w.heap.size, 16, none⟩) hq).trans h.2.2.2⟩
theorem SlN.drewL {w : World} {v : Value} {l : List Int} (h : SlN w v l) : SlN w.drew v l := h
theorem SlB.sv3 {w : World} {v : Value} {l : List UInt8} (h : SlB w v l) : ∃ g c n, v = .slice g n c := by
  obtain ⟨b, o, cap, a, rfl, _⟩ := h
  exact ⟨_, _, _, rfl⟩
theorem all_ok {l : List C7} (h : setB l = true) : l.all C7.ok = true := (setB_ok h).1
theorem bytes_most {c : C7} (h : c.ok = true) : c.bytes.length ≤ 42 := by
  obtain ⟨h0, h1, h2, h3, h4, h5, h6⟩ := C7.ok_small h
  unfold C7.bytes
  simp only [List.length_append]
  have := oneN_six (n := c.i.toNat) (by omega); have := oneN_six (n := c.k.toNat) (by omega); have := oneN_six (n := c.s.toNat) (by omega); have := oneN_six (n := c.t.toNat) (by omega); have := oneN_six (n := c.d.toNat) (by omega); have := oneN_six (n := c.p.toNat) (by omega); have := oneN_six (n := c.q.toNat) (by omega)
  omega
theorem value_most {t : Int} {l : List C7} (h : setB l = true ∧ 0 ≤ t ∧ t ≤ 1099511627776) (hl : l.length ≤ 428) : (valueBytes t l).length ≤ 18000 := by
  have h1 := cmdsBytes_len l (all_ok h.1) (by omega)
  have h6 := oneN_six (n := t.toNat) (by omega)
  unfold valueBytes
  rw [List.length_append]; omega
theorem FineE.three {e : Ev} {f a v : List C7} (h : FineE e f a v) : ∀ x ∈ [e.pr, e.lo, e.hi], 0 ≤ x ∧ x ≤ 1099511627776 := by
  intro x hx
  simp at hx
  rcases hx with rfl | rfl | rfl
  · exact h.pr
  · exact h.lo
  · exact h.hi
theorem FineE.one {e : Ev} {f a v : List C7} (h : FineE e f a v) : ∀ x ∈ [e.ab], 0 ≤ x ∧ x ≤ 1099511627776 := by
  intro x hx
  simp at hx
  subst hx
  exact h.ab
theorem marks_two (b c : Bool) : ∀ x ∈ [markI b, markI c], 0 ≤ x ∧ x ≤ 1099511627776 := by
  intro x hx
  simp at hx
  rcases hx with rfl | rfl
  · exact mark_fine b
  · exact mark_fine c
theorem ent_len {e : Ev} {f a v : List C7} (h : FineE e f a v) (lf : f.length ≤ 428) (la : a.length ≤ 428) (lv : v.length ≤ 428) : 1 ≤ (entB e f a v).length ∧ (entB e f a v).length ≤ 1000000 := by
  have h0 := bytes_most h.c
  have h1 := cmd_pos e.c
  rw [cmdsB_one] at h1
  have p3 := putAll_len [e.pr, e.lo, e.hi] (List.all_eq_true.2 fun x hx => in40_true.2 (FineE.three h x hx))
  have p1 := putAll_len [e.ab] (List.all_eq_true.2 fun x hx => in40_true.2 (FineE.one h x hx))
  have p2 := putAll_len [markI e.fr, markI e.dn] (List.all_eq_true.2 fun x hx => in40_true.2 (marks_two e.fr e.dn x hx))
  have vf := value_most h.f lf
  have va := value_most h.a la
  have vv := value_most h.v lv
  simp at p1 p2 p3
  unfold entB
  simp only [List.length_append, cmdsB_one]
  omega
theorem rows_seven {w2 : World} {q : Nat} {T : TypeId} {s0 s1 s2 s3 s4 s5 s6 : Sv} {l0 l1 l2 l3 l4 l5 l6 : List UInt8} (h : w2.heap[q]? = some (.cells #[s0.v, s1.v, s2.v, s3.v, s4.v, s5.v, s6.v] T (0, 0))) (h0 : SlB w2 s0.v l0) (h1 : SlB w2 s1.v l1) (h2 : SlB w2 s2.v l2) (h3 : SlB w2 s3.v l3) (h4 : SlB w2 s4.v l4) (h5 : SlB w2 s5.v l5) (h6 : SlB w2 s6.v l6) : RowsB w2 q 0 [(s0, l0), (s1, l1), (s2, l2), (s3, l3), (s4, l4), (s5, l5), (s6, l6)] := by
  intro j p hp
  have hc := cellAt' h
  rw [Nat.zero_add]
  match j, hp with
  | 0, hp => cases hp; exact ⟨hc 0, h0⟩
  | 1, hp => cases hp; exact ⟨hc 1, h1⟩
  | 2, hp => cases hp; exact ⟨hc 2, h2⟩
  | 3, hp => cases hp; exact ⟨hc 3, h3⟩
  | 4, hp => cases hp; exact ⟨hc 4, h4⟩
  | 5, hp => cases hp; exact ⟨hc 5, h5⟩
  | 6, hp => cases hp; exact ⟨hc 6, h6⟩
  | _ + 7, hp => cases hp

set_option maxHeartbeats 4000000 in
set_option maxRecDepth 100000 in
theorem cEncode_yes {e : Ev} {f a v : List C7} {w : World} (hf : Sl w e.fp.v f) (ha : Sl w e.xp.v a) (hv : Sl w e.vp.v v) (lf : f.length ≤ 428) (la : a.length ≤ 428) (lv : v.length ≤ 428) (hr : rightE e f a v = true) :
    Calls Tryz.prog 54 #[.agg e.arr] w fun x w' => ∃ r, x = .returned (.tuple #[r, .int .i64 0]) ∧ OwnB w' w.heap.size r (entB e f a v) ∧ Below w.heap.size w w' := by
  have HE := hid (right_fine hr)
  have hR := fun (W : World) (hB : Below w.heap.size w W) => cRightE (hf.on hB) (ha.on hB) (hv.on hB) (by omega) (by omega) (by omega)
  rw [hr] at hR
  have HF := hid hf
  have HA := hid ha
  have HV := hid hv
  have HL := hid (And.intro lf (And.intro la lv))
  clear hf ha hv hr lf la lv
  have HX : Hid (Ob (w.alloc (.cells e.arr 48)) (w.heap.size) 48 e) := hid (laid1_0 w (.cells e.arr 48))
  have HW : Hid (Below w.heap.size w (w.alloc (.cells e.arr 48))) := hid (laid1_b w (.cells e.arr 48))
  have tok : Hid (0 = 0) := hid rfl
  go_enter Tryz.func54, Tryz.ntmps54
  go_wp2_with (first
    | (clear tok; (with_reducible refine opaqueW (w.alloc (.cells e.arr 48)) ?_); intro W0 hW; rw [← hW] at HX HW; clear hW)
    | ((with_reducible refine loadC (x := ?lx1) (b := ?lb1) (T := 48) e ?lg1 ?lo1 ?lxx1 ?lc1 ?lh1); (case lg1 => rfl); (case lo1 => rfl); (case lxx1 => rfl); (case lc1 => exact HX.out))
    | fail)
  go_at_call 69
  refine (hR _ HW.out).mono ?_
  rintro x w1 ⟨rfl, hB⟩
  have GX : Hid (Ob w1 w.heap.size 48 e) := hid (heapB HX.out hB (Array.getElem?_eq_some_iff.1 HX.out).1)
  have GW := hid (HW.out.trans (hB.mono HW.out.size))
  clear HX HW  
  have HX := GX; clear GX
  have HW := GW; clear GW
  clear hB hR
  have k7 : w1.cell? ⟨w.heap.size, 7, none⟩ = some (.int .i64 e.pr) := HX.out.cell (j := 7) rfl
  have k8 : w1.cell? ⟨w.heap.size, 8, none⟩ = some (.int .i64 e.lo) := HX.out.cell (j := 8) rfl
  have k9 : w1.cell? ⟨w.heap.size, 9, none⟩ = some (.int .i64 e.hi) := HX.out.cell (j := 9) rfl
  go_wp2_with fail
  go_at_call 53
  refine (putN0 (SlN.lit3 rfl) (by simp) HE.out.three).mono ?_
  rintro x w2 ⟨r2, rfl, ho, hB0⟩
  have hB : Below w1.heap.size w1 w2 := ((Below.refl _ w1).alloc (Nat.le_refl _) _).trans (hB0.mono (by simp))
  have GX : Hid (Ob w2 w.heap.size 48 e) := hid (heapB HX.out hB (Array.getElem?_eq_some_iff.1 HX.out).1)
  have GW := hid (HW.out.trans (hB.mono HW.out.size))
  clear HX HW k7 k8 k9 
  have HX := GX; clear GX
  have HW := GW; clear GW
  have S2 := hid ho.slb
  obtain ⟨g2, c2, n2, rfl, hn⟩ := ho.asSlice
  clear ho hn hB hB0
  have k10 : w2.cell? ⟨w.heap.size, 10, none⟩ = some (.int .i64 e.ft) := HX.out.cell (j := 10) rfl
  have k11 : w2.cell? ⟨w.heap.size, 11, none⟩ = some (.slice e.fp.a e.fp.n e.fp.c) := HX.out.cell (j := 11) rfl
  go_wp2_with fail
  go_at_call 71
  refine (putV0 (HF.out.on HW.out) HL.out.1 HE.out.f).mono ?_
  rintro x w3 ⟨r3, rfl, ho, hB0⟩
  have hB := hB0
  have GX : Hid (Ob w3 w.heap.size 48 e) := hid (heapB HX.out hB (Array.getElem?_eq_some_iff.1 HX.out).1)
  have GW := hid (HW.out.trans (hB.mono HW.out.size))
  have G2 := hid (S2.out.on hB)
  clear HX HW k10 k11 S2
  have HX := GX; clear GX
  have HW := GW; clear GW
  have S2 := G2; clear G2
  have S3 := hid ho.slb
  obtain ⟨g3, c3, n3, rfl, hn⟩ := ho.asSlice
  clear ho hn hB hB0
  have k12 : w3.cell? ⟨w.heap.size, 12, none⟩ = some (.int .i64 e.ab) := HX.out.cell (j := 12) rfl
  go_wp2_with fail
  go_at_call 53
  refine (putN0 (SlN.lit1 rfl) (by simp) HE.out.one).mono ?_
  rintro x w4 ⟨r4, rfl, ho, hB0⟩
  have hB : Below w3.heap.size w3 w4 := ((Below.refl _ w3).alloc (Nat.le_refl _) _).trans (hB0.mono (by simp))
  have GX : Hid (Ob w4 w.heap.size 48 e) := hid (heapB HX.out hB (Array.getElem?_eq_some_iff.1 HX.out).1)
  have GW := hid (HW.out.trans (hB.mono HW.out.size))
  have G2 := hid (S2.out.on hB)
  have G3 := hid (S3.out.on hB)
  clear HX HW k12 S2 S3
  have HX := GX; clear GX
  have HW := GW; clear GW
  have S2 := G2; clear G2
  have S3 := G3; clear G3
  have S4 := hid ho.slb
  obtain ⟨g4, c4, n4, rfl, hn⟩ := ho.asSlice
  clear ho hn hB hB0
  have k13 : w4.cell? ⟨w.heap.size, 13, none⟩ = some (.int .i64 e.xt) := HX.out.cell (j := 13) rfl
  have k14 : w4.cell? ⟨w.heap.size, 14, none⟩ = some (.slice e.xp.a e.xp.n e.xp.c) := HX.out.cell (j := 14) rfl
  go_wp2_with fail
  go_at_call 71
  refine (putV0 (HA.out.on HW.out) HL.out.2.1 HE.out.a).mono ?_
  rintro x w5 ⟨r5, rfl, ho, hB0⟩
  have hB := hB0
  have GX : Hid (Ob w5 w.heap.size 48 e) := hid (heapB HX.out hB (Array.getElem?_eq_some_iff.1 HX.out).1)
  have GW := hid (HW.out.trans (hB.mono HW.out.size))
  have G2 := hid (S2.out.on hB)
  have G3 := hid (S3.out.on hB)
  have G4 := hid (S4.out.on hB)
  clear HX HW k13 k14 S2 S3 S4
  have HX := GX; clear GX
  have HW := GW; clear GW
  have S2 := G2; clear G2
  have S3 := G3; clear G3
  have S4 := G4; clear G4
  have S5 := hid ho.slb
  obtain ⟨g5, c5, n5, rfl, hn⟩ := ho.asSlice
  clear ho hn hB hB0
  have k15 : w5.cell? ⟨w.heap.size, 15, none⟩ = some (.bool e.fr) := HX.out.cell (j := 15) rfl
  have k16 : w5.cell? ⟨w.heap.size, 16, none⟩ = some (.bool e.dn) := HX.out.cell (j := 16) rfl
  go_wp2_with fail
  have hqw : w.heap.size < w5.heap.size := (Array.getElem?_eq_some_iff.1 HX.out).1
  have hS0 : EncS w w5 e.fr e.dn w5.drew := ⟨Nat.le_refl _, (Below.refl _ w5).drew, k15, k16⟩
  have HS0 := hid hS0
  have HS1 : Hid (EncS w w5 e.fr e.dn w5) := hid ⟨Nat.le_refl _, Below.refl _ w5, k15, k16⟩
  have HK := hid (fun (W W' : World) (h : EncS w w5 e.fr e.dn W) (hb : Below w5.heap.size W W') => h.on hqw hb)
  clear hS0
  go_region_held3 (fun W => w5.heap.size ≤ W.heap.size ∧ Below w5.heap.size w5 W ∧ W.cell? ⟨w.heap.size, 15, none⟩ = some (.bool e.fr) ∧ W.cell? ⟨w.heap.size, 16, none⟩ = some (.bool e.dn)) (first | exact HS0.out | assumption | exact HK.out _ _ (by assumption) ((Below.refl _ _).alloc (show EncS w w5 e.fr e.dn _ by assumption).1 _)) (first | (go_at_call 72; refine (cBit _ _).mono ?_; rintro x w' ⟨rfl, rfl⟩) | (go_at_call 53; refine (putN0 (w := (w5.alloc (.cells #[.int .i64 (markI e.fr), .int .i64 (markI e.dn)] 3)).drew) (SlN.drewL (SlN.lit2 rfl)) (by simp) (marks_two e.fr e.dn)).mono ?_; rintro x w6 ⟨r6, rfl, ho, hB0⟩; have hB : Below w5.heap.size w5 w6 := (belowDrew ((Below.refl _ w5).alloc (Nat.le_refl _) _)).trans (hB0.mono (by simp)); have hS6 : EncS w w5 e.fr e.dn w6 := HS1.out.on hqw hB))
  clear HK HS0 HS1 hS6 k15 k16
  have GX : Hid (Ob w6 w.heap.size 48 e) := hid (heapB HX.out hB (Array.getElem?_eq_some_iff.1 HX.out).1)
  have GW := hid (HW.out.trans (hB.mono HW.out.size))
  have G2 := hid (S2.out.on hB)
  have G3 := hid (S3.out.on hB)
  have G4 := hid (S4.out.on hB)
  have G5 := hid (S5.out.on hB)
  clear HX HW  S2 S3 S4 S5
  have HX := GX; clear GX
  have HW := GW; clear GW
  have S2 := G2; clear G2
  have S3 := G3; clear G3
  have S4 := G4; clear G4
  have S5 := G5; clear G5
  have S6 := hid ho.slb
  obtain ⟨g6, c6, n6, rfl, hn⟩ := ho.asSlice
  clear ho hn hB hB0
  have k17 : w6.cell? ⟨w.heap.size, 17, none⟩ = some (.int .i64 e.vt) := HX.out.cell (j := 17) rfl
  have k18 : w6.cell? ⟨w.heap.size, 18, none⟩ = some (.slice e.vp.a e.vp.n e.vp.c) := HX.out.cell (j := 18) rfl
  go_wp2_with fail
  go_at_call 71
  refine (putV0 (HV.out.on HW.out) HL.out.2.2 HE.out.v).mono ?_
  rintro x w7 ⟨r7, rfl, ho, hB0⟩
  have hB := hB0
  have GX : Hid (Ob w7 w.heap.size 48 e) := hid (heapB HX.out hB (Array.getElem?_eq_some_iff.1 HX.out).1)
  have GW := hid (HW.out.trans (hB.mono HW.out.size))
  have G2 := hid (S2.out.on hB)
  have G3 := hid (S3.out.on hB)
  have G4 := hid (S4.out.on hB)
  have G5 := hid (S5.out.on hB)
  have G6 := hid (S6.out.on hB)
  clear HX HW k17 k18 S2 S3 S4 S5 S6
  have HX := GX; clear GX
  have HW := GW; clear GW
  have S2 := G2; clear G2
  have S3 := G3; clear G3
  have S4 := G4; clear G4
  have S5 := G5; clear G5
  have S6 := G6; clear G6
  have S7 := hid ho.slb
  obtain ⟨g7, c7, n7, rfl, hn⟩ := ho.asSlice
  clear ho hn hB hB0
  have k0 : w7.cell? ⟨w.heap.size, 0, none⟩ = some (.int .i64 e.c.i) := HX.out.cell (j := 0) rfl
  have k1 : w7.cell? ⟨w.heap.size, 1, none⟩ = some (.int .i64 e.c.k) := HX.out.cell (j := 1) rfl
  have k2 : w7.cell? ⟨w.heap.size, 2, none⟩ = some (.int .i64 e.c.s) := HX.out.cell (j := 2) rfl
  have k3 : w7.cell? ⟨w.heap.size, 3, none⟩ = some (.int .i64 e.c.t) := HX.out.cell (j := 3) rfl
  have k4 : w7.cell? ⟨w.heap.size, 4, none⟩ = some (.int .i64 e.c.d) := HX.out.cell (j := 4) rfl
  have k5 : w7.cell? ⟨w.heap.size, 5, none⟩ = some (.int .i64 e.c.p) := HX.out.cell (j := 5) rfl
  have k6 : w7.cell? ⟨w.heap.size, 6, none⟩ = some (.int .i64 e.c.q) := HX.out.cell (j := 6) rfl
  go_wp2_with fail
  go_at_call 73
  refine (cCmdBytes HE.out.c).mono ?_
  rintro x w8 ⟨r8, rfl, hs8, hB⟩
  have GX : Hid (Ob w8 w.heap.size 48 e) := hid (heapB HX.out hB (Array.getElem?_eq_some_iff.1 HX.out).1)
  have GW := hid (HW.out.trans (hB.mono HW.out.size))
  have G2 := hid (S2.out.on hB)
  have G3 := hid (S3.out.on hB)
  have G4 := hid (S4.out.on hB)
  have G5 := hid (S5.out.on hB)
  have G6 := hid (S6.out.on hB)
  have G7 := hid (S7.out.on hB)
  clear HX HW k0 k1 k2 k3 k4 k5 k6 S2 S3 S4 S5 S6 S7
  have HX := GX; clear GX
  have HW := GW; clear GW
  have S2 := G2; clear G2
  have S3 := G3; clear G3
  have S4 := G4; clear G4
  have S5 := G5; clear G5
  have S6 := G6; clear G6
  have S7 := G7; clear G7
  have S8 := hid hs8
  obtain ⟨g8, c8, n8, rfl⟩ := hs8.sv3
  clear hs8 hB
  go_wp2_with fail
  go_at_call 55
  have hal := (Below.refl w8.heap.size w8).alloc (Nat.le_refl _) (.cells #[.slice g8 n8 c8, .slice g2 n2 c2, .slice g3 n3 c3, .slice g4 n4 c4, .slice g5 n5 c5, .slice g6 n6 c6, .slice g7 n7 c7] 63)
  have hRow : RowsB (w8.alloc (.cells #[.slice g8 n8 c8, .slice g2 n2 c2, .slice g3 n3 c3, .slice g4 n4 c4, .slice g5 n5 c5, .slice g6 n6 c6, .slice g7 n7 c7] 63)) w8.heap.size 0 [(⟨g8, n8, c8⟩, cmdsB [e.c]), (⟨g2, n2, c2⟩, putAll [e.pr, e.lo, e.hi]), (⟨g3, n3, c3⟩, valueBytes e.ft f), (⟨g4, n4, c4⟩, putAll [e.ab]), (⟨g5, n5, c5⟩, valueBytes e.xt a), (⟨g6, n6, c6⟩, putAll [markI e.fr, markI e.dn]), (⟨g7, n7, c7⟩, valueBytes e.vt v)] := rows_seven (heap_alloc_new w8 _) (S8.out.on hal) (S2.out.on hal) (S3.out.on hal) (S4.out.on hal) (S5.out.on hal) (S6.out.on hal) (S7.out.on hal)
  have hcat : catB ([(⟨g8, n8, c8⟩, cmdsB [e.c]), (⟨g2, n2, c2⟩, putAll [e.pr, e.lo, e.hi]), (⟨g3, n3, c3⟩, valueBytes e.ft f), (⟨g4, n4, c4⟩, putAll [e.ab]), (⟨g5, n5, c5⟩, valueBytes e.xt a), (⟨g6, n6, c6⟩, putAll [markI e.fr, markI e.dn]), (⟨g7, n7, c7⟩, valueBytes e.vt v)] : List (Sv × List UInt8)) = entB e f a v := by unfold catB entB; simp
  have hlen := ent_len HE.out HL.out.1 HL.out.2.1 HL.out.2.2
  have hlens : lensB ([(⟨g8, n8, c8⟩, cmdsB [e.c]), (⟨g2, n2, c2⟩, putAll [e.pr, e.lo, e.hi]), (⟨g3, n3, c3⟩, valueBytes e.ft f), (⟨g4, n4, c4⟩, putAll [e.ab]), (⟨g5, n5, c5⟩, valueBytes e.xt a), (⟨g6, n6, c6⟩, putAll [markI e.fr, markI e.dn]), (⟨g7, n7, c7⟩, valueBytes e.vt v)] : List (Sv × List UInt8)) = (entB e f a v).length := by rw [← cat_len, hcat]
  refine (cConcat (cap := 7) hRow (by simp) (by rw [hlens]; exact hlen.1) (by rw [hlens]; exact hlen.2) (by simp)).mono ?_
  rintro x w9 ⟨r9, rfl, ho, hB9⟩
  rw [hcat] at ho
  have hBx := HW.out.trans (hal.mono HW.out.size)
  have HO := hid (own_monoB ho hBx.size)
  have HB := hid (hBx.trans (hB9.mono hBx.size))
  obtain ⟨g9, c9, n9, rfl, hn9⟩ := ho.asSlice
  clear ho hn9 hB9 hRow hal hBx hlens hlen hcat
  go_wp2_with fail
  go_ret2
  exact ⟨_, rfl, HO.out, HB.out⟩
end Go.Proofs.YtpkkmfppdhjpkaaGreat
