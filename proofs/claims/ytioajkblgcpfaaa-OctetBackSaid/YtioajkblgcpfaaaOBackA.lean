/- The walk of the law OctetBack, where the numbers and the value may be: they come back, and it returns true. -/
import Derived.Test.YtioajkblgcpfaaaOBackH
namespace Go.Proofs.Ytioajkblgcpfaaa
set_option linter.unusedVariables false
open Go.RowKit
open Go.Lib (hid)

set_option maxHeartbeats 3000000 in
set_option maxRecDepth 100000 in
theorem wBackA {va vp vb : Value} {ns : List Int} {cs : List C7} {bs : List UInt8} {w : World} {t : Int} (ha : SlN w va ns) (hc : Sl w vp cs) (hb : SlB w vb bs) (hl : ns.length ≤ 150) (hl2 : cs.length ≤ 150) (hl3 : bs.length ≤ 3000) (h01 : ns.all in40 = true) (h02 : setB cs = true) (h03 : in40 t = true) : Calls Try.prog 5 #[va, .agg #[.int .i64 t, vp], vb] w fun e w' => e = .returned (.bool true) ∧ Below w.heap.size w w' := by
  have hA := hid ha
  have hC := hid hc
  have hB := hid hb
  obtain ⟨nb, no, capa, aa, rfl, hna, hnc, hnb⟩ := ha
  obtain ⟨_, _, capc, ac, rfl, _⟩ := hc
  obtain ⟨_, _, capb, ab, rfl, _⟩ := hb
  obtain ⟨ht0, ht1⟩ := in40_true.1 h03
  obtain ⟨hok, hln⟩ := setB_ok h02
  obtain ⟨vbs, hvbs⟩ : ∃ vbs, vbs = valueBytes t cs := ⟨_, rfl⟩
  have hvl : vbs.length ≤ 6312 := by rw [hvbs]; exact Nat.le_trans (valueBytes_len ht0 ht1 hok hln) (by omega)
  have hPB := put_ok h01
  have hVB := putV_ok h02 h03
  have hpl := putAll_len ns h01
  have hP := hid (fun (W : World) (h : SlN W (.slice aa ns.length capa) ns) => cPutN h (by omega))
  have hV := hid (fun (W : World) (h : Sl W (.slice ac cs.length capc) cs) => cPutValue t h (by omega))
  rw [hPB.1, hPB.2] at hP
  rw [hVB.1, hVB.2, ← hvbs] at hV
  have HBK := hid (show valueS (vbs, 0) = ((t.toNat, cs), ([], 0)) by have := valueS_back ht0 ht1 h02 []; rw [List.append_nil, ← hvbs] at this; exact this)
  have HAL := hid (And.intro h01 (And.intro ht0 ht1))
  clear hPB hVB hvbs hok hln h01 h02 h03 ht0 ht1
  go_enter Try.func5, Try.ntmps5
  go_wp2_with fail
  go_at_call 7
  refine (hP.out _ (hA.out.on ((Below.refl _ w).alloc (Nat.le_refl _) (boxV t (.slice ac cs.length capc))))).mono ?_
  rintro e w1 ⟨r1, rfl, ho1, hb1⟩
  obtain ⟨g1, c1, n1, rfl, hn1⟩ := ho1.asSlice
  clear hn1
  have h1 := hid ho1.slb
  have hs1 := hb1.size
  simp at hs1
  have HW : Hid (Below w.heap.size w w1) := hid (((Below.refl _ w).alloc (Nat.le_refl _) (boxV t (.slice ac cs.length capc))).trans (hb1.mono (by simp)))
  have HX : Hid (w1.heap[w.heap.size]? = some (boxV t (.slice ac cs.length capc))) := hid (heapB (heap_alloc_new w _) hb1 (by simp))
  have k0 : w1.cell? ⟨w.heap.size, 0, none⟩ = some (.int .i64 t) := (cellAt' HX.out 0).trans rfl
  have k1 : w1.cell? ⟨w.heap.size, 1, none⟩ = some (.slice ac cs.length capc) := (cellAt' HX.out 1).trans rfl
  clear ho1 hb1
  go_wp2_with fail
  go_at_call 11
  refine (hV.out _ (hC.out.on HW.out)).mono ?_
  rintro e w2 ⟨r2, rfl, ho2, hb2⟩
  obtain ⟨g2, c2, n2, rfl, hn2⟩ := ho2.asSlice
  clear hn2
  have h2 := hid ho2.slb
  replace h1 := hid (h1.out.on hb2)
  replace HX := hid (heapB HX.out hb2 (by omega))
  have hs2 := hb2.size
  replace HW := hid (HW.out.trans (hb2.mono HW.out.size))
  clear ho2 hb2 k0 k1
  go_wp2_with (at_builtin; refine wpList_append_slb rfl _ _ rfl w2.heap.size _ [] rfl (OwnB.made w2) _ (putAll ns) rfl (h1.out.on ((Below.refl _ w2).alloc (Nat.le_refl _) _)) (by simp; omega) (by simp) ?_)
  intro v3 w3 ho3 hg3
  obtain ⟨g3, c3, n3, rfl, hn3⟩ := OwnB.asSlice ho3
  clear hn3
  have hB3 : Below w2.heap.size w2 w3 := ((Below.refl _ w2).alloc (Nat.le_refl _) (.cells #[] 5)).grown hg3 (by simp) (fun k hk => by cases hk; exact Nat.le_refl _)
  have H3 := hid (And.intro ho3 hB3)
  have hs3 := hB3.size
  clear hg3 ho3 hB3
  go_wp2_with (at_builtin; refine wpList_append_slb rfl _ _ rfl w2.heap.size _ (putAll ns) rfl H3.out.1 _ vbs rfl (h2.out.on H3.out.2) (by omega) hs3 ?_)
  intro v4 w4 ho4 hg4
  obtain ⟨g4, c4, n4, rfl, hn4⟩ := ho4.asSlice
  clear hn4
  have hB4 : Below w2.heap.size w2 w4 := H3.out.2.grown hg4 hs3 (fun k hk => (H3.out.1.lt k hk).1)
  have hs4 := hB4.size
  have h4 := hid ho4.slb
  replace HW := hid (HW.out.trans (hB4.mono HW.out.size))
  replace HX := hid (heapB HX.out hB4 (by omega))
  clear ho4 hg4 hB4 H3
  go_wp2_with fail
  go_at_call 13
  refine (cRead h4.out (by rw [List.length_append]; omega)).mono ?_
  rintro e w5 ⟨p, rfl, hp1, hp2, hR, hb5⟩
  have HR := hid hR
  replace HW := hid (HW.out.trans (hb5.mono HW.out.size))
  replace HX := hid (heapB HX.out hb5 (by omega))
  have hs5 := hb5.size
  clear hR hb5 h1 h2 h4
  go_wp2_with fail
  go_loopg [13] ns.length (fun g i wr => ∃ k : Nat, k ≤ ns.length ∧ g = ns.length - k ∧ i = .int .i64 k ∧ Hid (Rd 63 (fun k => w4.heap.size ≤ k ∧ k < p) wr p (putAll (ns.drop k) ++ vbs, 0) ∧ Below w.heap.size w wr ∧ wr.heap[w.heap.size]? = some (boxV t (.slice ac cs.length capc))))
  case atStart => exact ⟨0, Nat.zero_le _, rfl, rfl, hid ⟨HR.out, HW.out, HX.out⟩⟩
  case round =>
    clear HR HW HX
    obtain ⟨k, hk, rfl, rfl, hst⟩ := hrel
    have hsw := hst.out.2.1.size
    have hplt := hst.out.1.lt
    by_cases hlt : k < ns.length
    · obtain rfl := hna (by omega)
      obtain ⟨x, hx⟩ : ∃ x, ns[k]? = some x := ⟨ns[k], List.getElem?_eq_getElem hlt⟩
      have hi40 := in40_true.1 (List.all_eq_true.1 HAL.out.1 x (List.mem_of_getElem? hx))
      obtain ⟨n, rfl⟩ : ∃ n : Nat, x = n := ⟨x.toNat, by omega⟩
      have hbw := hnb (by omega)
      have c0 := (hst.out.2.1.cell (p := ⟨nb, no + k, none⟩) hbw).trans (hnc k _ hx)
      have hN := fun (W : World) (h : Rd 63 (fun k => w4.heap.size ≤ k ∧ k < p) W p (putAll (ns.drop k) ++ vbs, 0)) => cNum h
      have hdr := putAll_drop hx
      rw [Int.toNat_natCast] at hdr
      rw [hdr, List.append_assoc, numS_one (by omega)] at hN
      have HN := hid hN
      have HR := hid hst.out.1
      rw [hdr, List.append_assoc] at HR
      clear hx hN hdr
      have hS0 : wr.drew.cell? ⟨nb, no + k, none⟩ = some (.int .i64 n) := c0
      go_wp2
      go_region_held (fun W' => W'.cell? ⟨nb, no + k, none⟩ = some (.int .i64 (n : Nat))) (first | exact hS0 | assumption) (first
        | (go_at_call 14; (
            refine (HN.out _ (HR.out.on ((Below.refl _ wr).drew))).mono ?_
            rintro e w7 ⟨rfl, hR7, hg7⟩
            have hS7 : w7.cell? ⟨nb, no + k, none⟩ = some (.int .i64 (n : Nat)) := hg7.cell hS0 (fun hh => by have e : nb = p := Option.some.inj hh; omega)
            have H7 := hid (And.intro hR7 (And.intro ((hst.out.2.1.drew).grown hg7 hsw (fun j hj => by cases hj; omega)) (heapOf (w := wr.drew) hst.out.2.2 hg7 (by omega))))
            clear hR7 hg7)))
      all_goals (
        go_wp2
        go_roundg (ns.length - (k + 1))
        case measure => omega
        case rel => exact ⟨k + 1, by omega, rfl, by go_num, H7⟩)
    · obtain rfl : k = ns.length := by omega
      have hRl := hst.out.1
      rw [List.drop_length, show putAll [] ++ vbs = vbs from rfl] at hRl
      have hVal := cValue hRl (fun j hj => Nat.lt_trans hj.2 hRl.lt)
      rw [HBK.out] at hVal
      have HW := hid hst.out.2.1
      have HX := hid hst.out.2.2
      clear hst hRl
      go_wp2_with fail
      go_at_call 22
      refine hVal.mono ?_
      rintro e w8 ⟨rw8, rfl, hov, hR, hg⟩
      obtain ⟨gw, cw, nw, rfl, hnw⟩ := hov.asSlice
      clear hnw
      obtain ⟨tn, rfl⟩ : ∃ tn : Nat, t = tn := ⟨t.toNat, by have := HAL.out.2.1; omega⟩
      have hs8 := hg.size
      replace HW := hid ((HW.out.grown hg HW.out.size (fun j hj => by cases hj; omega)).alloc (by omega) (boxV tn (.slice gw nw cw)))
      have HX8 := hid (heapOf HX.out hg (by omega))
      have hx9 : (w8.alloc (boxV tn (.slice gw nw cw))).heap[w.heap.size]? = some (boxV tn (.slice ac cs.length capc)) := (Below.heap_alloc _ _ _ (by omega)).trans HX8.out
      have k0 : (w8.alloc (boxV tn (.slice gw nw cw))).cell? ⟨w.heap.size, 0, none⟩ = some (.int .i64 tn) := (cellAt' hx9 0).trans rfl
      have k1 : (w8.alloc (boxV tn (.slice gw nw cw))).cell? ⟨w.heap.size, 1, none⟩ = some (.slice ac cs.length capc) := (cellAt' hx9 1).trans rfl
      have hSV := rSameValue (tn : Nat) (own_allocSl hov (boxV tn (.slice gw nw cw))) (hC.out.on HW.out) (by omega)
      have HR := hid (hR.alloc (boxV tn (.slice gw nw cw)))
      clear hov hR hg hVal hx9
      go_wp2_with (first
        | (go_at_call 21; (
            refine hSV.mono ?_
            rintro e w9 ⟨rfl, hb9⟩
            replace HR := hid (HR.out.on hb9)
            replace HW := hid (HW.out.trans (hb9.mono HW.out.size))
            clear hb9))
        | (go_at_call 25; refine (cErr HR.out).mono ?_; rintro e w10 ⟨rfl, rfl⟩)
        | (go_at_call 24; (
            refine (cRest HR.out (by simp)).mono ?_
            rintro e w10 ⟨r10, rfl, ho10, hb10⟩
            obtain ⟨g10, c10, n10, rfl, hn10⟩ := ho10.asSlice
            obtain rfl : n10 = 0 := hn10
            replace HW := hid (HW.out.trans (hb10.mono HW.out.size))
            clear ho10 hb10)))
      clear HR
      go_wp2_with fail
      go_at_call 13
      refine (cRead (hB.out.on HW.out) (by omega)).mono ?_
      rintro e u1 ⟨p2, rfl, hq1, hq2, hR, hb⟩
      have hpw : w.heap.size ≤ p2 := Nat.le_trans HW.out.size hq1
      replace HW := hid (HW.out.trans (hb.mono HW.out.size))
      have HR := hid hR
      clear hR hb
      obtain ⟨tv, htv⟩ : ∃ tv, tv = (valueS (bs, 0)).1.1 := ⟨_, rfl⟩
      obtain ⟨cv, hcv⟩ : ∃ cv, cv = (valueS (bs, 0)).1.2 := ⟨_, rfl⟩
      obtain ⟨sv, hsv⟩ : ∃ sv, sv = (valueS (bs, 0)).2 := ⟨_, rfl⟩
      have hVal := cValue HR.out (fun j hj => Nat.lt_trans hj.2 HR.out.lt)
      rw [← htv, ← hcv, ← hsv] at hVal
      have HT := hid (And.intro htv (And.intro hcv hsv))
      clear htv hcv hsv
      go_wp2_with fail
      go_at_call 22
      refine hVal.mono ?_
      rintro e u2 ⟨rv, rfl, hov, hR, hg⟩
      obtain ⟨gr, cr, nr, rfl, hnr⟩ := hov.asSlice
      have HNR := hid hnr
      clear hnr
      have hu1 := hg.size
      replace HW := hid (HW.out.grown hg HW.out.size (fun j hj => by cases hj; exact hpw))
      have hu2 := HW.out.size
      replace HR := hid (hR.alloc (boxV (tv : Nat) (.slice gr nr cr)))
      have HO := hid (own_allocSl hov (boxV (tv : Nat) (.slice gr nr cr)))
      replace HW := hid (HW.out.alloc HW.out.size (boxV (tv : Nat) (.slice gr nr cr)))
      have hErr := cErr HR.out
      clear hR hg hov hVal
      by_cases he : sv.2 = 0
      · rw [he] at hErr
        have HV := hid (valueS_ok (s := (bs, 0)) (by rw [← HT.out.2.2]; exact he))
        rw [← HT.out.1, ← HT.out.2.1, ← HT.out.2.2] at HV
        obtain ⟨zb, hzb⟩ : ∃ zb, zb = valueBytes (tv : Nat) cv := ⟨_, rfl⟩
        have hcat : zb ++ sv.1 = bs := by rw [hzb]; exact HV.out.2.2.2.symm
        have hzl : zb.length + sv.1.length = bs.length := by rw [← hcat, List.length_append]
        have hfew : 7 * cv.length + 2 ≤ zb.length := by rw [hzb]; exact valueBytes_few
        have hPV := cPutValueL (tv : Nat) HO.out (by omega)
        have hok := putV_ok (t := (tv : Nat)) (cs := cv) HV.out.2.2.1 (in40_true.2 (by have := HV.out.2.1; omega))
        rw [hok.1, hok.2, ← hzb] at hPV
        obtain ⟨rb, hrb⟩ : ∃ rb, rb = sv.1 := ⟨_, rfl⟩
        have hRest := fun (W : World) (h : Rd 63 (fun k => w10.heap.size ≤ k ∧ k < p2) W p2 sv) => cRest h (by omega)
        rw [← hrb] at hRest
        have hRl : rb.length = sv.1.length := by rw [hrb]
        have HCAT := hid (cat_bytes (show zb ++ rb = bs by rw [hrb]; exact hcat))
        have hcat2 : (⟨zb.toArray⟩ : ByteArray) ++ ⟨rb.toArray⟩ = ⟨bs.toArray⟩ := HCAT.out
        have hsum : ¬ 9223372036854775807 < zb.length + rb.length := by omega
        have HRest := hid hRest
        clear hRest hok hzb hcat hrb hfew hRl
        go_wp2_with (first
          | (go_at_call 25; (
              refine hErr.mono ?_
              rintro e u3 ⟨rfl, rfl⟩))
          | (go_at_call 11; (
              refine hPV.mono ?_
              rintro e u4 ⟨z, rfl, hoz, hb4⟩
              obtain ⟨gz, cz, nz, rfl, hnz⟩ := hoz.asSlice
              clear hnz
              have HZ := hid hoz.slb
              have HR4 := hid (HR.out.on hb4)
              have HW4 := hid (HW.out.trans (hb4.mono HW.out.size))
              clear hoz hb4)))
        have HK := hid (fun (W' : World) (hb : Below u4.heap.size u4 W') => (show (convert 25 9 (.slice gz nz cz)).run Try.prog W' = .ok (strB zb) W' ∧ (convert 25 9 (.slice ab bs.length capb)).run Try.prog W' = .ok (strB bs) W' from ⟨convB (HZ.out.on hb), convB (hB.out.on (HW4.out.trans (hb.mono HW4.out.size)))⟩))
        have hS4 := HK.out u4.drew ((Below.refl _ u4).drew)
        go_wp2
        go_region_held (fun W' => (convert 25 9 (.slice gz nz cz)).run Try.prog W' = .ok (strB zb) W' ∧ (convert 25 9 (.slice ab bs.length capb)).run Try.prog W' = .ok (strB bs) W') (first | exact hS4 | assumption) (first
          | (go_at_call 6; (
              refine (oAlive _).mono ?_
              rintro e u5 ⟨rfl, hb5⟩
              have HB5 := hid (((Below.refl _ u4).drew).trans hb5)
              have hS5 := HK.out u5 HB5.out
              clear hb5))
          | (go_at_call 24; (
              refine (HRest.out _ (HR4.out.on HB5.out)).mono ?_
              rintro e u6 ⟨r6, rfl, ho6, hb6⟩
              obtain ⟨g6, c6, n6, rfl, hn6⟩ := ho6.asSlice
              clear hn6
              have hcr := convB ho6.slb
              have HB6 := hid (HB5.out.trans (hb6.mono HB5.out.size))
              have hS6 := HK.out u6 HB6.out
              clear ho6 hb6)))
        all_goals (
          go_wp2
          go_ret
          exact ⟨by first | rfl | (simp [hcat2]), HW4.out.trans (HB6.out.mono HW4.out.size)⟩)
      · have hsp : sv.1 = [] := by rw [HT.out.2.2]; exact spent_value (s := (bs, 0)) (fun hh => absurd rfl hh) (by rw [← HT.out.2.2]; exact he)
        have hbad := valueS_bad (s := (bs, 0)) (by rw [← HT.out.2.2]; exact he)
        obtain rfl : tv = 0 := by rw [HT.out.1, hbad]
        obtain rfl : cv = [] := by rw [HT.out.2.1, hbad]
        obtain rfl : nr = 0 := HNR.out
        have hRest := fun (W : World) (h : Rd 63 (fun k => w10.heap.size ≤ k ∧ k < p2) W p2 sv) => cRest h (by rw [hsp]; simp)
        rw [hsp] at hRest
        have HRest := hid hRest
        obtain ⟨ee, hee⟩ : ∃ ee, ee = sv.2 := ⟨_, rfl⟩
        rw [← hee] at hErr he
        clear hRest hee hbad hsp
        go_wp2_with (first
          | (go_at_call 25; (
              refine hErr.mono ?_
              rintro e u3 ⟨rfl, rfl⟩))
          | (go_at_call 6; (
              refine (oAlive _).mono ?_
              rintro e u4 ⟨rfl, hb4⟩
              have HR4 := hid (HR.out.on hb4)
              have HW4 := hid (HW.out.trans (hb4.mono HW.out.size))
              have HX4 := hid (heapB (heap_alloc_new u2 (boxV ((0 : Nat) : Int) (.slice gr 0 cr))) hb4 (by simp))
              clear hb4))
          | (go_at_call 24; (
              refine (HRest.out _ HR4.out).mono ?_
              rintro e u5 ⟨r5, rfl, ho5, hb5⟩
              obtain ⟨g5, c5, n5, rfl, hn5⟩ := ho5.asSlice
              obtain rfl : n5 = 0 := hn5
              have hx5 := heapB HX4.out hb5 (Array.getElem?_eq_some_iff.1 HX4.out).1
              have d0 : u5.cell? ⟨u2.heap.size, 0, none⟩ = some (.int .i64 0) := (cellAt' hx5 0).trans rfl
              have d1 : u5.cell? ⟨u2.heap.size, 1, none⟩ = some (.slice gr 0 cr) := (cellAt' hx5 1).trans rfl
              have HW5 := hid (HW4.out.trans (hb5.mono HW4.out.size))
              clear hx5 ho5 hb5)))
        go_ret
        exact ⟨rfl, HW5.out⟩
end Go.Proofs.Ytioajkblgcpfaaa
