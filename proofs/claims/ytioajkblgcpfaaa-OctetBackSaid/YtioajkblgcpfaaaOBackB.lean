/- The walk of the law OctetBack, where the numbers or the value may not be: it returns true. -/
import Derived.Test.YtioajkblgcpfaaaOBackH
namespace Go.Proofs.Ytioajkblgcpfaaa
set_option linter.unusedVariables false
open Go.RowKit
open Go.Lib (hid)

set_option maxHeartbeats 3000000 in
set_option maxRecDepth 100000 in
theorem wBackB {va vp vb : Value} {ns : List Int} {cs : List C7} {bs : List UInt8} {w : World} {t : Int} (ha : SlN w va ns) (hc : Sl w vp cs) (hb : SlB w vb bs) (hl : ns.length ≤ 150) (hl2 : cs.length ≤ 150) (hl3 : bs.length ≤ 3000) (h0 : ¬ (putE ns = 0 ∧ putVE t cs = 0)) : Calls Try.prog 5 #[va, .agg #[.int .i64 t, vp], vb] w fun e w' => e = .returned (.bool true) ∧ Below w.heap.size w w' := by
  have hA := hid ha
  have hC := hid hc
  have hB := hid hb
  obtain ⟨nb, no, capa, aa, rfl, hna, hnc, hnb⟩ := ha
  obtain ⟨_, _, capc, ac, rfl, _⟩ := hc
  obtain ⟨_, _, capb, ab, rfl, _⟩ := hb
  obtain ⟨e1, he1⟩ : ∃ e1, e1 = putE ns := ⟨_, rfl⟩
  obtain ⟨e2, he2⟩ : ∃ e2, e2 = putVE t cs := ⟨_, rfl⟩
  have hP := hid (fun (W : World) (h : SlN W (.slice aa ns.length capa) ns) => cPutN h (by omega))
  have hV := hid (fun (W : World) (h : Sl W (.slice ac cs.length capc) cs) => cPutValue t h (by omega))
  rw [← he1] at hP h0
  rw [← he2] at hV h0
  clear he1 he2
  go_enter Try.func5, Try.ntmps5
  go_wp2_with fail
  go_at_call 7
  refine (hP.out _ (hA.out.on ((Below.refl _ w).alloc (Nat.le_refl _) (boxV t (.slice ac cs.length capc))))).mono ?_
  rintro e w1 ⟨r1, rfl, ho1, hb1⟩
  obtain ⟨g1, c1, n1, rfl, hn1⟩ := ho1.asSlice
  clear hn1
  have h1 := hid ho1.slb
  have hs1 := hb1.size
  simp at hs1
  have HW : Hid (Below w.heap.size w w1) := hid (((Below.refl _ w).alloc (Nat.le_refl _) (boxV t (.slice ac cs.length capc))).trans (hb1.mono (by simp)))
  have HX : Hid (w1.heap[w.heap.size]? = some (boxV t (.slice ac cs.length capc))) := hid (heapB (heap_alloc_new w _) hb1 (by simp))
  have k0 : w1.cell? ⟨w.heap.size, 0, none⟩ = some (.int .i64 t) := (cellAt' HX.out 0).trans rfl
  have k1 : w1.cell? ⟨w.heap.size, 1, none⟩ = some (.slice ac cs.length capc) := (cellAt' HX.out 1).trans rfl
  clear ho1 hb1
  go_wp2_with fail
  go_at_call 11
  refine (hV.out _ (hC.out.on HW.out)).mono ?_
  rintro e w2 ⟨r2, rfl, ho2, hb2⟩
  obtain ⟨g2, c2, n2, rfl, hn2⟩ := ho2.asSlice
  clear hn2
  have h2 := hid ho2.slb
  replace h1 := hid (h1.out.on hb2)
  replace HX := hid (heapB HX.out hb2 (by omega))
  have hs2 := hb2.size
  replace HW := hid (HW.out.trans (hb2.mono HW.out.size))
  clear ho2 hb2 k0 k1
  by_cases h3 : e1 = 0
  · have h4 : ¬ e2 = 0 := fun hh => h0 ⟨h3, hh⟩
    clear h0
    go_wp2_with fail
    go_at_call 13
    refine (cRead (hB.out.on HW.out) (by omega)).mono ?_
    rintro e u1 ⟨p2, rfl, hq1, hq2, hR, hb⟩
    have hpw : w.heap.size ≤ p2 := Nat.le_trans HW.out.size hq1
    replace HW := hid (HW.out.trans (hb.mono HW.out.size))
    have HR := hid hR
    clear hR hb
    obtain ⟨tv, htv⟩ : ∃ tv, tv = (valueS (bs, 0)).1.1 := ⟨_, rfl⟩
    obtain ⟨cv, hcv⟩ : ∃ cv, cv = (valueS (bs, 0)).1.2 := ⟨_, rfl⟩
    obtain ⟨sv, hsv⟩ : ∃ sv, sv = (valueS (bs, 0)).2 := ⟨_, rfl⟩
    have hVal := cValue HR.out (fun j hj => Nat.lt_trans hj.2 HR.out.lt)
    rw [← htv, ← hcv, ← hsv] at hVal
    have HT := hid (And.intro htv (And.intro hcv hsv))
    clear htv hcv hsv
    go_wp2_with fail
    go_at_call 22
    refine hVal.mono ?_
    rintro e u2 ⟨rv, rfl, hov, hR, hg⟩
    obtain ⟨gr, cr, nr, rfl, hnr⟩ := hov.asSlice
    have HNR := hid hnr
    clear hnr
    have hu1 := hg.size
    replace HW := hid (HW.out.grown hg HW.out.size (fun j hj => by cases hj; exact hpw))
    have hu2 := HW.out.size
    replace HR := hid (hR.alloc (boxV (tv : Nat) (.slice gr nr cr)))
    have HO := hid (own_allocSl hov (boxV (tv : Nat) (.slice gr nr cr)))
    replace HW := hid (HW.out.alloc HW.out.size (boxV (tv : Nat) (.slice gr nr cr)))
    have hErr := cErr HR.out
    clear hR hg hov hVal
    by_cases he : sv.2 = 0
    · rw [he] at hErr
      have HV := hid (valueS_ok (s := (bs, 0)) (by rw [← HT.out.2.2]; exact he))
      rw [← HT.out.1, ← HT.out.2.1, ← HT.out.2.2] at HV
      obtain ⟨zb, hzb⟩ : ∃ zb, zb = valueBytes (tv : Nat) cv := ⟨_, rfl⟩
      have hcat : zb ++ sv.1 = bs := by rw [hzb]; exact HV.out.2.2.2.symm
      have hzl : zb.length + sv.1.length = bs.length := by rw [← hcat, List.length_append]
      have hfew : 7 * cv.length + 2 ≤ zb.length := by rw [hzb]; exact valueBytes_few
      have hPV := cPutValueL (tv : Nat) HO.out (by omega)
      have hok := putV_ok (t := (tv : Nat)) (cs := cv) HV.out.2.2.1 (in40_true.2 (by have := HV.out.2.1; omega))
      rw [hok.1, hok.2, ← hzb] at hPV
      obtain ⟨rb, hrb⟩ : ∃ rb, rb = sv.1 := ⟨_, rfl⟩
      have hRest := fun (W : World) (h : Rd 63 (fun k => w2.heap.size ≤ k ∧ k < p2) W p2 sv) => cRest h (by omega)
      rw [← hrb] at hRest
      have hRl : rb.length = sv.1.length := by rw [hrb]
      have HCAT := hid (cat_bytes (show zb ++ rb = bs by rw [hrb]; exact hcat))
      have hcat2 : (⟨zb.toArray⟩ : ByteArray) ++ ⟨rb.toArray⟩ = ⟨bs.toArray⟩ := HCAT.out
      have hsum : ¬ 9223372036854775807 < zb.length + rb.length := by omega
      have HRest := hid hRest
      clear hRest hok hzb hcat hrb hfew hRl
      go_wp2_with (first
        | (go_at_call 25; (
            refine hErr.mono ?_
            rintro e u3 ⟨rfl, rfl⟩))
        | (go_at_call 11; (
            refine hPV.mono ?_
            rintro e u4 ⟨z, rfl, hoz, hb4⟩
            obtain ⟨gz, cz, nz, rfl, hnz⟩ := hoz.asSlice
            clear hnz
            have HZ := hid hoz.slb
            have HR4 := hid (HR.out.on hb4)
            have HW4 := hid (HW.out.trans (hb4.mono HW.out.size))
            clear hoz hb4)))
      have HK := hid (fun (W' : World) (hb : Below u4.heap.size u4 W') => (show (convert 25 9 (.slice gz nz cz)).run Try.prog W' = .ok (strB zb) W' ∧ (convert 25 9 (.slice ab bs.length capb)).run Try.prog W' = .ok (strB bs) W' from ⟨convB (HZ.out.on hb), convB (hB.out.on (HW4.out.trans (hb.mono HW4.out.size)))⟩))
      have hS4 := HK.out u4.drew ((Below.refl _ u4).drew)
      go_wp2
      go_region_held (fun W' => (convert 25 9 (.slice gz nz cz)).run Try.prog W' = .ok (strB zb) W' ∧ (convert 25 9 (.slice ab bs.length capb)).run Try.prog W' = .ok (strB bs) W') (first | exact hS4 | assumption) (first
        | (go_at_call 6; (
            refine (oAlive _).mono ?_
            rintro e u5 ⟨rfl, hb5⟩
            have HB5 := hid (((Below.refl _ u4).drew).trans hb5)
            have hS5 := HK.out u5 HB5.out
            clear hb5))
        | (go_at_call 24; (
            refine (HRest.out _ (HR4.out.on HB5.out)).mono ?_
            rintro e u6 ⟨r6, rfl, ho6, hb6⟩
            obtain ⟨g6, c6, n6, rfl, hn6⟩ := ho6.asSlice
            clear hn6
            have hcr := convB ho6.slb
            have HB6 := hid (HB5.out.trans (hb6.mono HB5.out.size))
            have hS6 := HK.out u6 HB6.out
            clear ho6 hb6)))
      all_goals (
        go_wp2
        go_ret
        exact ⟨by first | rfl | (simp [hcat2]), HW4.out.trans (HB6.out.mono HW4.out.size)⟩)
    · have hsp : sv.1 = [] := by rw [HT.out.2.2]; exact spent_value (s := (bs, 0)) (fun hh => absurd rfl hh) (by rw [← HT.out.2.2]; exact he)
      have hbad := valueS_bad (s := (bs, 0)) (by rw [← HT.out.2.2]; exact he)
      obtain rfl : tv = 0 := by rw [HT.out.1, hbad]
      obtain rfl : cv = [] := by rw [HT.out.2.1, hbad]
      obtain rfl : nr = 0 := HNR.out
      have hRest := fun (W : World) (h : Rd 63 (fun k => w2.heap.size ≤ k ∧ k < p2) W p2 sv) => cRest h (by rw [hsp]; simp)
      rw [hsp] at hRest
      have HRest := hid hRest
      obtain ⟨ee, hee⟩ : ∃ ee, ee = sv.2 := ⟨_, rfl⟩
      rw [← hee] at hErr he
      clear hRest hee hbad hsp
      go_wp2_with (first
        | (go_at_call 25; (
            refine hErr.mono ?_
            rintro e u3 ⟨rfl, rfl⟩))
        | (go_at_call 6; (
            refine (oAlive _).mono ?_
            rintro e u4 ⟨rfl, hb4⟩
            have HR4 := hid (HR.out.on hb4)
            have HW4 := hid (HW.out.trans (hb4.mono HW.out.size))
            have HX4 := hid (heapB (heap_alloc_new u2 (boxV ((0 : Nat) : Int) (.slice gr 0 cr))) hb4 (by simp))
            clear hb4))
        | (go_at_call 24; (
            refine (HRest.out _ HR4.out).mono ?_
            rintro e u5 ⟨r5, rfl, ho5, hb5⟩
            obtain ⟨g5, c5, n5, rfl, hn5⟩ := ho5.asSlice
            obtain rfl : n5 = 0 := hn5
            have hx5 := heapB HX4.out hb5 (Array.getElem?_eq_some_iff.1 HX4.out).1
            have d0 : u5.cell? ⟨u2.heap.size, 0, none⟩ = some (.int .i64 0) := (cellAt' hx5 0).trans rfl
            have d1 : u5.cell? ⟨u2.heap.size, 1, none⟩ = some (.slice gr 0 cr) := (cellAt' hx5 1).trans rfl
            have HW5 := hid (HW4.out.trans (hb5.mono HW4.out.size))
            clear hx5 ho5 hb5)))
      go_ret
      exact ⟨rfl, HW5.out⟩
  · clear h0
    go_wp2_with fail
    go_at_call 13
    refine (cRead (hB.out.on HW.out) (by omega)).mono ?_
    rintro e u1 ⟨p2, rfl, hq1, hq2, hR, hb⟩
    have hpw : w.heap.size ≤ p2 := Nat.le_trans HW.out.size hq1
    replace HW := hid (HW.out.trans (hb.mono HW.out.size))
    have HR := hid hR
    clear hR hb
    obtain ⟨tv, htv⟩ : ∃ tv, tv = (valueS (bs, 0)).1.1 := ⟨_, rfl⟩
    obtain ⟨cv, hcv⟩ : ∃ cv, cv = (valueS (bs, 0)).1.2 := ⟨_, rfl⟩
    obtain ⟨sv, hsv⟩ : ∃ sv, sv = (valueS (bs, 0)).2 := ⟨_, rfl⟩
    have hVal := cValue HR.out (fun j hj => Nat.lt_trans hj.2 HR.out.lt)
    rw [← htv, ← hcv, ← hsv] at hVal
    have HT := hid (And.intro htv (And.intro hcv hsv))
    clear htv hcv hsv
    go_wp2_with fail
    go_at_call 22
    refine hVal.mono ?_
    rintro e u2 ⟨rv, rfl, hov, hR, hg⟩
    obtain ⟨gr, cr, nr, rfl, hnr⟩ := hov.asSlice
    have HNR := hid hnr
    clear hnr
    have hu1 := hg.size
    replace HW := hid (HW.out.grown hg HW.out.size (fun j hj => by cases hj; exact hpw))
    have hu2 := HW.out.size
    replace HR := hid (hR.alloc (boxV (tv : Nat) (.slice gr nr cr)))
    have HO := hid (own_allocSl hov (boxV (tv : Nat) (.slice gr nr cr)))
    replace HW := hid (HW.out.alloc HW.out.size (boxV (tv : Nat) (.slice gr nr cr)))
    have hErr := cErr HR.out
    clear hR hg hov hVal
    by_cases he : sv.2 = 0
    · rw [he] at hErr
      have HV := hid (valueS_ok (s := (bs, 0)) (by rw [← HT.out.2.2]; exact he))
      rw [← HT.out.1, ← HT.out.2.1, ← HT.out.2.2] at HV
      obtain ⟨zb, hzb⟩ : ∃ zb, zb = valueBytes (tv : Nat) cv := ⟨_, rfl⟩
      have hcat : zb ++ sv.1 = bs := by rw [hzb]; exact HV.out.2.2.2.symm
      have hzl : zb.length + sv.1.length = bs.length := by rw [← hcat, List.length_append]
      have hfew : 7 * cv.length + 2 ≤ zb.length := by rw [hzb]; exact valueBytes_few
      have hPV := cPutValueL (tv : Nat) HO.out (by omega)
      have hok := putV_ok (t := (tv : Nat)) (cs := cv) HV.out.2.2.1 (in40_true.2 (by have := HV.out.2.1; omega))
      rw [hok.1, hok.2, ← hzb] at hPV
      obtain ⟨rb, hrb⟩ : ∃ rb, rb = sv.1 := ⟨_, rfl⟩
      have hRest := fun (W : World) (h : Rd 63 (fun k => w2.heap.size ≤ k ∧ k < p2) W p2 sv) => cRest h (by omega)
      rw [← hrb] at hRest
      have hRl : rb.length = sv.1.length := by rw [hrb]
      have HCAT := hid (cat_bytes (show zb ++ rb = bs by rw [hrb]; exact hcat))
      have hcat2 : (⟨zb.toArray⟩ : ByteArray) ++ ⟨rb.toArray⟩ = ⟨bs.toArray⟩ := HCAT.out
      have hsum : ¬ 9223372036854775807 < zb.length + rb.length := by omega
      have HRest := hid hRest
      clear hRest hok hzb hcat hrb hfew hRl
      go_wp2_with (first
        | (go_at_call 25; (
            refine hErr.mono ?_
            rintro e u3 ⟨rfl, rfl⟩))
        | (go_at_call 11; (
            refine hPV.mono ?_
            rintro e u4 ⟨z, rfl, hoz, hb4⟩
            obtain ⟨gz, cz, nz, rfl, hnz⟩ := hoz.asSlice
            clear hnz
            have HZ := hid hoz.slb
            have HR4 := hid (HR.out.on hb4)
            have HW4 := hid (HW.out.trans (hb4.mono HW.out.size))
            clear hoz hb4)))
      have HK := hid (fun (W' : World) (hb : Below u4.heap.size u4 W') => (show (convert 25 9 (.slice gz nz cz)).run Try.prog W' = .ok (strB zb) W' ∧ (convert 25 9 (.slice ab bs.length capb)).run Try.prog W' = .ok (strB bs) W' from ⟨convB (HZ.out.on hb), convB (hB.out.on (HW4.out.trans (hb.mono HW4.out.size)))⟩))
      have hS4 := HK.out u4.drew ((Below.refl _ u4).drew)
      go_wp2
      go_region_held (fun W' => (convert 25 9 (.slice gz nz cz)).run Try.prog W' = .ok (strB zb) W' ∧ (convert 25 9 (.slice ab bs.length capb)).run Try.prog W' = .ok (strB bs) W') (first | exact hS4 | assumption) (first
        | (go_at_call 6; (
            refine (oAlive _).mono ?_
            rintro e u5 ⟨rfl, hb5⟩
            have HB5 := hid (((Below.refl _ u4).drew).trans hb5)
            have hS5 := HK.out u5 HB5.out
            clear hb5))
        | (go_at_call 24; (
            refine (HRest.out _ (HR4.out.on HB5.out)).mono ?_
            rintro e u6 ⟨r6, rfl, ho6, hb6⟩
            obtain ⟨g6, c6, n6, rfl, hn6⟩ := ho6.asSlice
            clear hn6
            have hcr := convB ho6.slb
            have HB6 := hid (HB5.out.trans (hb6.mono HB5.out.size))
            have hS6 := HK.out u6 HB6.out
            clear ho6 hb6)))
      all_goals (
        go_wp2
        go_ret
        exact ⟨by first | rfl | (simp [hcat2]), HW4.out.trans (HB6.out.mono HW4.out.size)⟩)
    · have hsp : sv.1 = [] := by rw [HT.out.2.2]; exact spent_value (s := (bs, 0)) (fun hh => absurd rfl hh) (by rw [← HT.out.2.2]; exact he)
      have hbad := valueS_bad (s := (bs, 0)) (by rw [← HT.out.2.2]; exact he)
      obtain rfl : tv = 0 := by rw [HT.out.1, hbad]
      obtain rfl : cv = [] := by rw [HT.out.2.1, hbad]
      obtain rfl : nr = 0 := HNR.out
      have hRest := fun (W : World) (h : Rd 63 (fun k => w2.heap.size ≤ k ∧ k < p2) W p2 sv) => cRest h (by rw [hsp]; simp)
      rw [hsp] at hRest
      have HRest := hid hRest
      obtain ⟨ee, hee⟩ : ∃ ee, ee = sv.2 := ⟨_, rfl⟩
      rw [← hee] at hErr he
      clear hRest hee hbad hsp
      go_wp2_with (first
        | (go_at_call 25; (
            refine hErr.mono ?_
            rintro e u3 ⟨rfl, rfl⟩))
        | (go_at_call 6; (
            refine (oAlive _).mono ?_
            rintro e u4 ⟨rfl, hb4⟩
            have HR4 := hid (HR.out.on hb4)
            have HW4 := hid (HW.out.trans (hb4.mono HW.out.size))
            have HX4 := hid (heapB (heap_alloc_new u2 (boxV ((0 : Nat) : Int) (.slice gr 0 cr))) hb4 (by simp))
            clear hb4))
        | (go_at_call 24; (
            refine (HRest.out _ HR4.out).mono ?_
            rintro e u5 ⟨r5, rfl, ho5, hb5⟩
            obtain ⟨g5, c5, n5, rfl, hn5⟩ := ho5.asSlice
            obtain rfl : n5 = 0 := hn5
            have hx5 := heapB HX4.out hb5 (Array.getElem?_eq_some_iff.1 HX4.out).1
            have d0 : u5.cell? ⟨u2.heap.size, 0, none⟩ = some (.int .i64 0) := (cellAt' hx5 0).trans rfl
            have d1 : u5.cell? ⟨u2.heap.size, 1, none⟩ = some (.slice gr 0 cr) := (cellAt' hx5 1).trans rfl
            have HW5 := hid (HW4.out.trans (hb5.mono HW4.out.size))
            clear hx5 ho5 hb5)))
      go_ret
      exact ⟨rfl, HW5.out⟩
end Go.Proofs.Ytioajkblgcpfaaa
