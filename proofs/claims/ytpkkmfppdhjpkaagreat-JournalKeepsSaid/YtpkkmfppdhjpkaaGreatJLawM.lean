import Derived.Test.YtpkkmfppdhjpkaaGreatGa43
import Derived.Test.YtpkkmfppdhjpkaaGreatGa44
import Derived.Test.YtpkkmfppdhjpkaaGreatJFitsM
import Derived.Deep.CutRange
/- The law's walk: every entries, however many are synced, wherever it crashes. -/
namespace Go.Proofs.YtpkkmfppdhjpkaaGreat
set_option linter.unusedVariables false
open Go.RowKit Go.Maps
open Go.Lib (hid)

theorem kept_short (xs : List En) : (keptE xs).length ≤ xs.length ∧ (keptG En.id xs).length ≤ xs.length := by
  have h : (keptG En.id xs).length ≤ xs.length := by
    have h1 := nodup_le ((keptG En.id xs).map En.id) (xs.map En.id) (List.pairwise_map.2 ((kept_up En.id xs).imp fun {a b} (h : En.id a < En.id b) e => by rw [e] at h; omega)) (fun i hi => by
      obtain ⟨x, hx, rfl⟩ := List.mem_map.1 hi
      exact List.mem_map.2 ⟨x, keptG_sub xs x hx, rfl⟩)
    simpa using h1
  exact ⟨by unfold keptE; rw [List.length_map]; exact h, h⟩
set_option maxHeartbeats 40000000 in
set_option maxRecDepth 100000 in
theorem jLaw {v : Value} {xs : List En} {w : World} (hS : SlE w v (xs.map En.e)) (hA : AllAt w xs) (synced keep : Int) :
    Calls Tryz.prog 3 #[v, .int .i64 synced, .int .i64 keep] w fun z w' => z = .returned (.bool true) ∧ Below w.heap.size w w' := by
  have hAl := fun W => jAlive W
  obtain ⟨N, hN⟩ : ∃ N, N = xs.length := ⟨_, rfl⟩
  obtain ⟨es, hes⟩ : ∃ es, es = evs xs := ⟨_, rfl⟩
  have hNe : es.length = N := by rw [hes, hN, List.length_map]
  rw [show xs.map En.e = es from hes.symm] at hS
  obtain ⟨cap, a, rfl⟩ : ∃ cap a, v = .slice a N cap := by
    obtain ⟨_, _, cap, a, e, _⟩ := hS
    exact ⟨cap, a, by rw [e, hNe]⟩
  have HS := hid hS
  have HN := hid hN
  have HNE := hid hNe
  have HES := hid hes
  have HA := hid hA
  clear hS hN hNe hes hA
  go_enter Tryz.func3, Tryz.ntmps3
  go_wp2_with fail
  go_at_call 4
  refine (cJFits (heap_alloc_new w _) (SlG.on HS.out ((Below.refl _ w).alloc (Nat.le_refl _) _))).mono ?_
  rintro z w1 ⟨bb, rfl, hbb, hB⟩
  have HB1 := hid (((Below.refl _ w).alloc (Nat.le_refl _) _).trans (hB.mono (by simp)) : Below w.heap.size w w1)
  clear hB
  rcases bb with _ | _
  · clear hbb
    go_wp2_with (first
      | (go_at_call 5; refine (hAl _).mono ?_; rintro z w2 ⟨rfl, hB2⟩; have HB2 := hid (HB1.out.trans (hB2.mono HB1.out.size)); clear hB2)
      | fail)
    go_ret
    exact ⟨rfl, HB2.out⟩
  · obtain ⟨hN25, hfit⟩ := hbb rfl
    rw [HNE.out] at hN25
    have HSH : Hid (∀ (m : Nat) x, xs[m]? = some x → x.short 80) := hid (fun m x hm => by
      have hx := List.mem_of_getElem? hm
      exact fits_short (HA.out x hx) (hfit _ (by rw [HES.out]; exact List.mem_map.2 ⟨x, hx, rfl⟩)))
    clear hbb hfit
    have hNew := cNew_yes 1048576 rfl w1
    go_wp2_with fail
    go_at_call 6
    refine hNew.mono ?_
    rintro z w2 ⟨rfl, hD, hB⟩
    have hO := cJOpen (rs := []) (l := []) (whole := 0) (B := w1.heap.size) hD (OwnB.nil _ _) (by simp) (by simpa using scan_nil) (by simp) (by simp) (fun k r h => by simp at h)
    have hsz := hB.size
    have HB2 := hid hB
    clear hNew hD hB
    go_wp2_with fail
    go_at_call 7
    refine hO.mono ?_
    rintro z w3 ⟨j, b, ys, rfl, hj, hm, ⟨vd, hd, hv⟩, hct, hat, hT, hj0, hb0⟩
    obtain rfl : ys = [] := by simpa using hct
    have HJ3 : Hid (JSt w3 w1.heap.size j w1.heap.size b 0 1048576 (0 : Nat) [] 0 (logB [])) := hid ⟨hj, hm, ⟨vd, hd, by simpa [logB_nil] using hv⟩, by omega, by omega, Nat.le_refl _⟩
    have HB3 : Hid (Below w1.heap.size w1 w3) := hid (HB2.out.trans (hT.below (fun k e => by omega) hsz))
    clear hO hj hm hd hv hct hat hT hj0 hb0 hsz HB2
    obtain ⟨rs, hrs⟩ : ∃ rs, rs = rsOf xs := ⟨_, rfl⟩
    have HRS := hid hrs
    clear hrs
    go_wp2_with fail
    go_loopw [12] (fun i wr => ∃ k : Nat, k ≤ N ∧ i = .int .i64 k ∧ JSt wr w1.heap.size j w1.heap.size b k 1048576 (lastC (rs.take k) : Nat) (xs.take k) (logB (rs.take (mOf synced k))).length (logB (rs.take k)) ∧ Hid (∀ (m : Nat) x, m < k → xs[m]? = some x → x.right = true) ∧ Below w1.heap.size w1 wr) (fun i _ => N - (intOf i).toNat)
    case atStart => exact ⟨0, Nat.zero_le _, rfl, by rw [mOf_0]; exact HJ3.out, hid (fun m x h => by omega), HB3.out⟩
    case round =>
      obtain ⟨k, hk, rfl, hJ, hR, hB⟩ := hrel
      have HJ := hid hJ
      have HB := hid hB
      have HBW := hid (HB1.out.trans (hB.mono HB1.out.size))
      clear hJ hB HJ3 HB3
      by_cases hlt : k < N
      · have hOf := rOf (SlG.on HS.out HBW.out) (by rw [HNE.out]; omega)
        obtain ⟨x, hx⟩ : ∃ x, xs[k]? = some x := ⟨xs[k]'(by rw [← HN.out]; exact hlt), List.getElem?_eq_getElem (by rw [← HN.out]; exact hlt)⟩
        have hxe : es[k]? = some x.e := by rw [HES.out]; exact at_evs hx
        have HX := hid hx
        have HXE := hid hxe
        clear hx hxe
        go_wp2_with fail
        go_at_call 9
        refine hOf.mono ?_
        rintro z w4 ⟨r4, rfl, hO4, hB4⟩
        clear hOf
        obtain ⟨b4, o4, cap4, a4, he4, ha4, hrow4, hl4⟩ := OwnG.slG kE hO4
        rw [HNE.out] at he4 ha4
        subst he4
        obtain rfl := ha4 (by omega)
        have HJ4 := hid (HJ.out.on hB4)
        have HB4 := hid (HB.out.trans (hB4.mono HB.out.size))
        have HBW4 := hid (HBW.out.trans (hB4.mono HBW.out.size))
        have HEL := hid (hrow4 k _ HXE.out)
        have hat4 := (HA.out x (List.mem_of_getElem? HX.out)).on HBW4.out
        have hsx := HSH.out k x HX.out
        have hR4 := rRightE hat4.1 hat4.2.1 hat4.2.2 (by have := hsx.1; omega) (by have := hsx.2.1; omega) (by have := hsx.2.2; omega)
        clear hO4 hB4 ha4 hrow4 hl4 HJ HB HBW hat4
        rcases hr : x.right with _ | _
        · rw [show rightE x.e x.f x.a x.v = false from hr] at hR4
          clear hr
          go_wp2_with (first
            | ((with_reducible refine loadEl (T := 44) (x := ?lx1) (b := ?lb1) (o := ?lo1) uR iR x.e ?lg1 ?lp1 ?lxx1 ?lc1 ?_); (case lg1 => rfl); (case lp1 => rfl); (case lxx1 => rfl); (case lc1 => exact HEL.out))
            | (go_at_call 8; refine hR4.mono ?_; rintro z w5 ⟨rfl, hB5⟩; have HB5 := hid (HBW4.out.trans (hB5.mono HBW4.out.size)); clear hB5)
            | (go_at_call 5; refine (hAl _).mono ?_; rintro z w6 ⟨rfl, hB6⟩; have HB6 := hid (HB5.out.trans (hB6.mono HB5.out.size)); clear hB6)
            | fail)
          go_ret
          exact ⟨rfl, HB6.out⟩
        · rw [show rightE x.e x.f x.a x.v = true from hr] at hR4
          by_cases hks : (k : Int) = synced
          · have hkb : ((k : Int) == synced) = true := by simp [hks]
            have hkd : decide ((k : Int) = synced) = true := by simp [hks]
            have HKS := hid hks
            clear hks
            go_wp2_with (first
              | ((with_reducible refine loadEl (T := 44) (x := ?lx2) (b := ?lb2) (o := ?lo2) uR iR x.e ?lg2 ?lp2 ?lxx2 ?lc2 ?_); (case lg2 => rfl); (case lp2 => rfl); (case lxx2 => rfl); (case lc2 => exact HEL.out))
              | (go_at_call 8; refine hR4.mono ?_; rintro z w5 ⟨rfl, hB5⟩; have HB5a := hid (HB4.out.trans (hB5.mono HB4.out.size)); have HBW5a := hid (HBW4.out.trans (hB5.mono HBW4.out.size)); have HJ5a := hid (HJ4.out.on hB5); clear hB5)
              | fail)
            go_at_call 10
            refine (cSyncS HJ5a.out).mono ?_
            rintro z w8 ⟨rfl, hJ, hB, -⟩
            have MOF := mOf_at HKS.out
            have HJ5 := hid hJ
            have HB5 := hid (HB5a.out.trans hB)
            have HBW5 := hid (HB1.out.trans (HB5.out.mono HB1.out.size))
            clear hJ hB HB5a HBW5a HJ5a HJ4 HB4 HBW4 hR4 HEL hkb hkd
            obtain ⟨bE, oE, capE, aE', heE, haE, hrowE, hlE⟩ := HS.out
            rw [HNE.out] at heE haE hlE
            obtain ⟨rfl, -, rfl⟩ : a = aE' ∧ N = N ∧ cap = capE := by injection heE with e1 e2 e3; exact ⟨e1, rfl, e3⟩
            obtain rfl := haE (by omega)
            have HEW := hid (RowsG.on hrowE HBW5.out (fun _ => hlE (by omega)) k _ HXE.out)
            have hrt : x.right = true := hr
            have HRT := hid hrt
            have HR5 : Hid (∀ (m : Nat) x, m < k + 1 → xs[m]? = some x → x.right = true) := hid (fun m y hm hy => by
              rcases Nat.lt_or_ge m k with h | h
              · exact hR.out m y h hy
              · obtain rfl : m = k := by omega
                rw [HX.out] at hy; cases hy; exact HRT.out)
            have hfr : FineR (rs.take (k + 1)) := by
              rw [HRS.out]
              exact rs_fine (by rw [← HN.out]; omega) (by omega) fun m y hm hy => ⟨HR5.out m y hm hy, HSH.out m y hy⟩
            have hlog := log_len hfr
            have htk : rs.take (k + 1) = rs.take k ++ [(k, x)] := by rw [HRS.out]; exact rs_take HX.out
            have hlc : lastC (rs.take k) = k - 1 := by rw [HRS.out]; exact rs_last xs k (by rw [← HN.out]; omega)
            have hlg : (logB (rs.take k) ++ frameB (recB k x)).length ≤ 275150 := by
              rw [htk, logB_snoc] at hlog
              dsimp only at hlog
              have := List.length_take (i := k + 1) (l := rs)
              rw [← htk] at hlog
              have h2 : (rs.take (k + 1)).length ≤ 25 := by rw [List.length_take]; omega
              have h3 : (rs.take (k + 1)).length * 11006 ≤ 25 * 11006 := Nat.mul_le_mul_right _ h2
              omega
            have HLG := hid hlg
            have HTK := hid htk
            have HLC := hid hlc
            have hxat := (HA.out x (List.mem_of_getElem? HX.out)).on HBW5.out
            have HXA := hid hxat
            clear heE haE hrowE hlE hfr hlog htk hlc hlg hxat
            go_wp2_with (first
              | ((with_reducible refine loadEl (T := 48) (x := ?lx3) (b := ?lb3) (o := ?lo3) uE iE x.e ?lg3 ?lp3 ?lxx3 ?lc3 ?_); (case lg3 => rfl); (case lp3 => rfl); (case lxx3 => rfl); (case lc3 => exact HEW.out))
              | ((with_reducible refine wpList_bsE (x := ?bx4) x.e ?bg4 ?bo4 ?bv4 ?_); (case bg4 => rfl); (case bo4 => rfl); (case bv4 => rfl); intro w6 hO hB; have HJ6 := hid (HJ5.out.on hB); have HB6 := hid (HB5.out.trans (hB.mono HB5.out.size)); have HQ6 := hid hO; have HXA6 := hid (HXA.out.on hB); clear hO hB)
              | fail)
            go_at_call 11
            have hl6 := HLG.out
            have hc6 := HLC.out
            refine (cJPut (c := k) (x := x) HJ6.out HB6.out.size HQ6.out HXA6.out HRT.out hsx (by omega) (by omega) (by omega) (by decide) (by omega) (by omega)).mono ?_
            rintro z w7 ⟨rfl, hJ, hB, -⟩
            rw [← takeN_snoc HX.out, ← logB_snoc (rs.take k) (k, x), ← HTK.out] at hJ
            have HJ7 : Hid (JSt w7 w1.heap.size j w1.heap.size b (k + 1) 1048576 (lastC (rs.take (k + 1)) : Nat) (xs.take (k + 1)) (logB (rs.take (mOf synced (k + 1)))).length (logB (rs.take (k + 1)))) := hid (by
              rw [MOF]
              have e1 : lastC (rs.take (k + 1)) = k := by rw [HTK.out, lastC_snoc]
              rw [e1]; exact hJ)
            have HB7 := hid (HB6.out.trans hB)
            clear hJ hB hl6 hc6 HJ6 HB6 HQ6 HXA6 HXA HLG HLC HEW HJ5 HB5 HBW5
            go_wp2_with fail
            go_roundw
            case rel => exact ⟨k + 1, by omega, rfl, HJ7.out, HR5, HB7.out⟩
            case measure => simp [intOf]; omega
          · have hkb : ((k : Int) == synced) = false := by simp [hks]
            have hkd : decide ((k : Int) = synced) = false := by simp [hks]
            have MOF := mOf_not hks
            have HKS := hid hks
            clear hks
            go_upto_region 16 with (first
              | ((with_reducible refine loadEl (T := 44) (x := ?lx5) (b := ?lb5) (o := ?lo5) uR iR x.e ?lg5 ?lp5 ?lxx5 ?lc5 ?_); (case lg5 => rfl); (case lp5 => rfl); (case lxx5 => rfl); (case lc5 => exact HEL.out))
              | (go_at_call 8; refine hR4.mono ?_; rintro z w5 ⟨rfl, hB5⟩; have HB5 := hid (HB4.out.trans (hB5.mono HB4.out.size)); have HBW5 := hid (HBW4.out.trans (hB5.mono HBW4.out.size)); have HJ5 := hid (HJ4.out.on hB5); clear hB5)
              | fail)
            clear HJ4 HB4 HBW4 hR4 HEL hkb hkd
            obtain ⟨bE, oE, capE, aE', heE, haE, hrowE, hlE⟩ := HS.out
            rw [HNE.out] at heE haE hlE
            obtain ⟨rfl, -, rfl⟩ : a = aE' ∧ N = N ∧ cap = capE := by injection heE with e1 e2 e3; exact ⟨e1, rfl, e3⟩
            obtain rfl := haE (by omega)
            have HEW := hid (RowsG.on hrowE HBW5.out (fun _ => hlE (by omega)) k _ HXE.out)
            have hrt : x.right = true := hr
            have HRT := hid hrt
            have HR5 : Hid (∀ (m : Nat) x, m < k + 1 → xs[m]? = some x → x.right = true) := hid (fun m y hm hy => by
              rcases Nat.lt_or_ge m k with h | h
              · exact hR.out m y h hy
              · obtain rfl : m = k := by omega
                rw [HX.out] at hy; cases hy; exact HRT.out)
            have hfr : FineR (rs.take (k + 1)) := by
              rw [HRS.out]
              exact rs_fine (by rw [← HN.out]; omega) (by omega) fun m y hm hy => ⟨HR5.out m y hm hy, HSH.out m y hy⟩
            have hlog := log_len hfr
            have htk : rs.take (k + 1) = rs.take k ++ [(k, x)] := by rw [HRS.out]; exact rs_take HX.out
            have hlc : lastC (rs.take k) = k - 1 := by rw [HRS.out]; exact rs_last xs k (by rw [← HN.out]; omega)
            have hlg : (logB (rs.take k) ++ frameB (recB k x)).length ≤ 275150 := by
              rw [htk, logB_snoc] at hlog
              dsimp only at hlog
              have := List.length_take (i := k + 1) (l := rs)
              rw [← htk] at hlog
              have h2 : (rs.take (k + 1)).length ≤ 25 := by rw [List.length_take]; omega
              have h3 : (rs.take (k + 1)).length * 11006 ≤ 25 * 11006 := Nat.mul_le_mul_right _ h2
              omega
            have HLG := hid hlg
            have HTK := hid htk
            have HLC := hid hlc
            have hxat := (HA.out x (List.mem_of_getElem? HX.out)).on HBW5.out
            have HXA := hid hxat
            clear heE haE hrowE hlE hfr hlog htk hlc hlg hxat
            go_wp2_with (first
              | ((with_reducible refine loadEl (T := 48) (x := ?lx6) (b := ?lb6) (o := ?lo6) uE iE x.e ?lg6 ?lp6 ?lxx6 ?lc6 ?_); (case lg6 => rfl); (case lp6 => rfl); (case lxx6 => rfl); (case lc6 => exact HEW.out))
              | ((with_reducible refine wpList_bsE (x := ?bx7) x.e ?bg7 ?bo7 ?bv7 ?_); (case bg7 => rfl); (case bo7 => rfl); (case bv7 => rfl); intro w6 hO hB; have HJ6 := hid (HJ5.out.on hB); have HB6 := hid (HB5.out.trans (hB.mono HB5.out.size)); have HQ6 := hid hO; have HXA6 := hid (HXA.out.on hB); clear hO hB)
              | fail)
            go_at_call 11
            have hl6 := HLG.out
            have hc6 := HLC.out
            refine (cJPut (c := k) (x := x) HJ6.out HB6.out.size HQ6.out HXA6.out HRT.out hsx (by omega) (by omega) (by omega) (by decide) (by omega) (by omega)).mono ?_
            rintro z w7 ⟨rfl, hJ, hB, -⟩
            rw [← takeN_snoc HX.out, ← logB_snoc (rs.take k) (k, x), ← HTK.out] at hJ
            have HJ7 : Hid (JSt w7 w1.heap.size j w1.heap.size b (k + 1) 1048576 (lastC (rs.take (k + 1)) : Nat) (xs.take (k + 1)) (logB (rs.take (mOf synced (k + 1)))).length (logB (rs.take (k + 1)))) := hid (by
              rw [MOF]
              have e1 : lastC (rs.take (k + 1)) = k := by rw [HTK.out, lastC_snoc]
              rw [e1]; exact hJ)
            have HB7 := hid (HB6.out.trans hB)
            clear hJ hB hl6 hc6 HJ6 HB6 HQ6 HXA6 HXA HLG HLC HEW HJ5 HB5 HBW5
            go_wp2_with fail
            go_roundw
            case rel => exact ⟨k + 1, by omega, rfl, HJ7.out, HR5, HB7.out⟩
            case measure => simp [intOf]; omega
      · have hkN : k = N := by omega
        subst hkN
        have hrl : rs.length = k := by rw [HRS.out, rs_len, HN.out]
        have e1 : rs.take k = rs := List.take_of_length_le (by omega)
        have e2 : xs.take k = xs := List.take_of_length_le (by rw [← HN.out]; exact Nat.le_refl _)
        rw [e1, e2] at HJ
        have HRL := hid hrl
        have HRI : Hid (∀ (m : Nat) x, xs[m]? = some x → x.right = true) := hid (fun m x hm => hR.out m x (by have := (List.getElem?_eq_some_iff.1 hm).1; rw [HN.out]; exact this) hm)
        have hfr : FineR rs := by
          have := rs_fine (xs := xs) (k := k) (by rw [HN.out]; exact Nat.le_refl _) (by omega) fun m y hm hy => ⟨HRI.out m y hy, HSH.out m y hy⟩
          rw [← HRS.out, e1] at this; exact this
        have HFR := hid hfr
        have HLL : Hid ((logB rs).length ≤ 275150) := hid (by
          have := log_len hfr
          have h3 : rs.length * 11006 ≤ 25 * 11006 := Nat.mul_le_mul_right _ (by omega)
          omega)
        clear hrl e1 e2 hfr hlt
        go_upto_if 87 with fail
        go_cut [13] from 84 (fun u wx => JSt wx w1.heap.size j w1.heap.size b k 1048576 (lastC rs : Nat) xs (logB (rs.take (mF synced k))).length (logB rs) ∧ Below w1.heap.size w1 wx)
        case first =>
          by_cases hsy : (k : Int) ≤ synced
          · have HSY : Hid ((k : Int) ≤ synced) := hid hsy
            have d1 : decide ((k : Int) ≤ synced) = true := decide_eq_true hsy
            go_wp2_with (first
              | (go_at_call 10; refine (cSyncS HJ.out).mono ?_; rintro z w8 ⟨rfl, hJ, hB, -⟩; have HJ8 := hid hJ; have HB8 := hid (HB.out.trans hB); clear hJ hB)
              | fail)
            go_meet
            exact ⟨by rw [mF_all HSY.out, List.take_of_length_le (by rw [HRL.out]; exact Nat.le_refl _)]; exact HJ8.out, HB8.out⟩
          · have HSY : Hid (¬ (k : Int) ≤ synced) := hid hsy
            have d1 : decide ((k : Int) ≤ synced) = false := decide_eq_false hsy
            go_wp2_with fail
            go_meet
            exact ⟨by rw [mF_some (by have := HSY.out; omega)]; exact HJ.out, HB.out⟩
        case rest =>
          obtain ⟨hJc, hBc⟩ := hcut
          clear HJ HB
          obtain ⟨n, hn1, hn2, hn3, hn4, hn5, hn6, -⟩ := crash_log HFR.out (m := mF synced k) (by rw [HRL.out]; exact mF_le _ _) keep
          have hC := cCrashS hJc (by have := hn4; unfold crashN at this; omega) (by have := HLL.out; omega) keep
          obtain ⟨kk, hkk⟩ : ∃ kk, kk = crashN (logB rs).length (logB (rs.take (mF synced k))).length keep := ⟨_, rfl⟩
          rw [← hkk] at hC hn4 hn5 hn6
          rw [HRL.out] at hn1
          have HN1 := hid hn1
          have HN2 := hid hn2
          have HN3 := hid hn3
          have HBc := hid hBc
          have HN5 := hid hn5
          have HN6 := hid (And.intro hn4 hn6)
          clear hkk hn1 hn2 hn3 hn4 hn5 hn6 hJc hBc
          go_wp2_with fail
          go_at_call 12
          refine hC.mono ?_
          rintro z w5 ⟨rfl, ⟨vc, hdc, hvc⟩, hB⟩
          have HB5 := hid (HBc.out.trans hB)
          have htl : (rs.take n).length = n := by rw [List.length_take]; have := HN1.out; have := HRL.out; omega
          have HTL := hid htl
          have hO := cJOpen (rs := rs.take n) hdc hvc (by rw [List.length_take]; have := HLL.out; omega) HN5.out (by rw [List.length_take]; have := HN6.out; omega) (by rw [htl]; have := HN1.out; omega) (HFR.out.take n)
          clear hC hdc hvc hB htl HBc HN5 HN6 HLL
          go_wp2_with fail
          go_at_call 7
          refine hO.mono ?_
          rintro z w6 ⟨j', b', ys, rfl, hj, hm, -, hct, hat, hT, -, -⟩
          have HB6 : Hid (Below w1.heap.size w1 w6) := hid (HB5.out.trans (hT.below (fun k e => by omega) HB5.out.size))
          rw [HTL.out] at hm
          have hct2 : ys.map En.ct = (xs.take n).map En.ct := by
            rw [hct, ← rs_snd xs n, ← HRS.out, List.map_map]; rfl
          have hyl : ys.length = n := by have := congrArg List.length hct; rw [List.length_map, List.length_map, HTL.out] at this; exact this
          have hlc : lastC (rs.take n) = n - 1 := by rw [HRS.out]; exact rs_last xs n (by rw [← HN.out]; exact HN1.out)
          have hK := cKept hj hm (by have := HN1.out; omega) (by have := HN1.out; omega)
          rw [hlc] at hK
          obtain ⟨cc, hcc⟩ : ∃ cc, cc = n - 1 := ⟨_, rfl⟩
          rw [← hcc] at hK
          have HCT := hid hct2
          have HYL := hid hyl
          have HYA := hid hat
          have HCC := hid hcc
          clear hO hj hm hct hT hct2 hyl hlc HB5 hat hcc
          go_wp2_with fail
          go_at_call 13
          refine hK.mono ?_
          rintro z w7 ⟨vk, rfl, hS, hB⟩
          have HB7 := hid (HB6.out.trans (hB.mono HB6.out.size))
          have HYA7 := hid (HYA.out.on hB)
          obtain ⟨K, hKe⟩ : ∃ K, K = (keptE ys).length := ⟨_, rfl⟩
          obtain ⟨ak, ck, rfl⟩ : ∃ ak ck, vk = .slice ak K ck := by
            obtain ⟨_, _, c, a, e, _⟩ := hS
            exact ⟨a, c, by rw [e, hKe]⟩
          have HKS := hid hS
          have HKE := hid hKe
          have hK0 : K = 0 ↔ n = 0 := by
            rw [hKe]
            unfold keptE
            rw [List.length_map, List.length_eq_zero_iff, kept_nil_iff, ← List.length_eq_zero_iff, HYL.out]
          have HK0 := hid hK0
          have g1 : (0 : Int) < (cc : Int) + 1 := by omega
          have g2 : ¬ ((cc : Int) + 1 < 0) := by omega
          have g3 : ¬ ((cc : Int) + 1 ≤ 0) := by omega
          have g4 : (0 : Int) ≤ (cc : Int) + 1 := by omega
          have g5 : (cc : Int) + 1 ≤ 9223372036854775807 := by have := HN1.out; have := HCC.out; omega
          clear hK hS hB hKe hK0 HB6 HYA
          go_upto_if 110 with fail
          go_cut [18] from 108 (fun u wx => u = .int .i64 n ∧ wx = w7)
          case first =>
            clear g1 g2 g3 g4 g5
            by_cases h0 : n = 0
            · have hk0 : K = 0 := HK0.out.2 h0
              subst hk0
              go_wp2_with fail
              go_meet
              exact ⟨by rw [h0]; rfl, rfl⟩
            · have hk0 : ¬ K = 0 := fun e => h0 (HK0.out.1 e)
              have hk1 : ((K : Int) == 0) = false := by simp [hk0]
              have hk2 : decide ((K : Int) = 0) = false := by simp [hk0]
              have hk3 : decide (K = 0) = false := by simp [hk0]
              go_wp2_with fail
              go_meet
              exact ⟨by congr 1; have := HCC.out; omega, rfl⟩
          case rest =>
            obtain ⟨rfl, rfl⟩ := hcut
            clear g1 g2 g3 g4 g5 HCC HK0
            go_upto_region 28 with fail
            go_cut [142] from 111 to 141 (fun u wx => u = .bool false ∧ wx = wc)
            case first =>
              have q1 : ¬ (k : Int) < (n : Int) := by have := HN1.out; omega
              have q1d : decide ((k : Int) < (n : Int)) = false := decide_eq_false q1
              have q1n : decide (k < n) = false := decide_eq_false (by omega)
              by_cases hs0 : 0 ≤ synced
              · have q2 : decide (0 ≤ synced) = true := decide_eq_true hs0
                have Q3 : Hid (¬ (n : Int) < min synced (k : Int)) := hid (by have := mF_eq (n := k) hs0; have := HN2.out; omega)
                by_cases hk0 : keep ≤ 0
                · have q4 : decide (keep ≤ 0) = true := decide_eq_true hk0
                  have Q5 : Hid ((n : Int) = min synced (k : Int)) := hid (by have := mF_eq (n := k) hs0; have := HN3.out hk0; omega)
                  go_wp2_with fail
                  all_goals (first
                    | (exfalso; have := Q3.out; omega)
                    | (go_meet; exact ⟨congrArg Value.bool (by simp only [Bool.or_eq_false_iff, decide_eq_false_iff_not, bne_eq_false_iff_eq]; exact ⟨by have := Q3.out; omega, Q5.out⟩), rfl⟩)
                    | (go_meet; exact ⟨congrArg Value.bool (by simp only [bne_eq_false_iff_eq]; exact Q5.out), rfl⟩)
                    | (go_meet; exact ⟨congrArg Value.bool (by simp only [decide_eq_false_iff_not]; have := Q3.out; omega), rfl⟩)
                    | (go_meet; exact ⟨rfl, rfl⟩))
                · have q4 : decide (keep ≤ 0) = false := decide_eq_false hk0
                  go_wp2_with fail
                  all_goals (first
                    | (exfalso; have := Q3.out; omega)
                    | (go_meet; exact ⟨congrArg Value.bool (by simp only [decide_eq_false_iff_not]; have := Q3.out; omega), rfl⟩)
                    | (go_meet; exact ⟨rfl, rfl⟩))
              · have q2 : decide (0 ≤ synced) = false := decide_eq_false hs0
                by_cases hk0 : keep ≤ 0
                · have q4 : decide (keep ≤ 0) = true := decide_eq_true hk0
                  go_wp2_with fail
                  go_meet
                  exact ⟨rfl, rfl⟩
                · have q4 : decide (keep ≤ 0) = false := decide_eq_false hk0
                  go_wp2_with fail
                  go_meet
                  exact ⟨rfl, rfl⟩
            case rest =>
              obtain ⟨rfl, rfl⟩ := hcut
              have HBW7 := hid (HB1.out.trans (HB7.out.mono HB1.out.size))
              have hOf := rOf (SlG.on HS.out HBW7.out) (by rw [HNE.out]; omega)
              go_wp2_with fail
              go_at_call 9
              refine hOf.mono ?_
              rintro z w8 ⟨r8, rfl, hO8, hB8⟩
              obtain ⟨b8, o8, cap8, a8, he8, ha8, hrow8, hl8⟩ := OwnG.slG kE hO8
              rw [HNE.out] at he8 ha8 hl8
              subst he8
              have HB8 := hid (HBW7.out.trans (hB8.mono HBW7.out.size))
              have HKS8 := hid (SlG.on HKS.out hB8)
              have HYA8 := hid (HYA7.out.on hB8)
              have HROW8 := hid hrow8
              clear hOf hO8 hB8 hrow8 HBW7 HKS HYA7 HB7
              go_wp2_with fail
              go_loopw [19, 21] (fun u i wr' => ∃ m : Nat, m ≤ n ∧ i = .int .i64 m ∧ OwnRec wr' w8.heap.size u ((rs.take m).map fun r => ((r.1 : Int), r.2.e)) ∧ Below w8.heap.size w8 wr') (fun _ i _ => n - (intOf i).toNat)
              case atStart => exact ⟨0, Nat.zero_le _, rfl, OwnG.nil _ _ _ _ _, Below.refl _ _⟩
              case round =>
                obtain ⟨m, hm, rfl, hown, hB⟩ := hrel
                have HO := hid hown
                have HB := hid hB
                obtain ⟨g0, cap0, n0, rfl, -⟩ := hown.asSlice
                clear hown
                by_cases hlt : m < n
                · have hmk : m < k := by have := HN1.out; omega
                  obtain rfl := ha8 (by omega)
                  obtain ⟨x, hx⟩ : ∃ x, xs[m]? = some x := ⟨xs[m]'(by rw [← HN.out]; exact hmk), List.getElem?_eq_getElem (by rw [← HN.out]; exact hmk)⟩
                  have hxe : es[m]? = some x.e := by rw [HES.out]; exact at_evs hx
                  have HEL : Hid (wr.rangeAt b8 (o8 + m * 19) x.e.list) := hid ((HROW8.out.on hB fun _ => hl8 (by omega)) m _ hxe)
                  have HX := hid hx
                  have hml : ((rs.take m).map fun r => ((r.1 : Int), r.2.e)).length ≤ 100000 := by rw [List.length_map, List.length_take]; omega
                  have HML := hid hml
                  clear hx hxe hB hml
                  go_wp2_with (first
                    | ((with_reducible refine loadEl (T := 44) (x := ?lx8) (b := ?lb8) (o := ?lo8) uR iR x.e ?lg8 ?lp8 ?lxx8 ?lc8 ?_); (case lg8 => rfl); (case lp8 => rfl); (case lxx8 => rfl); (case lc8 => exact HEL.out))
                    | ((with_reducible refine wpList_buildR (x := ?rx1) (y := ?ry1) (i := (m : Int)) x.e ?rg1 ?ro1 ?rv1 ?rw1 ?_); (case rg1 => rfl); (case ro1 => rfl); (case rv1 => rfl); (case rw1 => rfl))
                    | ((with_reducible refine wpList_bsRec (x := ?bx9) ((m : Int), x.e) ?bg9 ?bo9 ?bv9 ?_); (case bg9 => rfl); (case bo9 => rfl); (case bv9 => rfl); intro W2 hQ2 hB2; have HQ2 := hid hQ2; have hs2 := hB2.size; have HO2 := hid (OwnG.on HO.out hB2); have HB2 := hid (HB.out.trans (hB2.mono HB.out.size)); have hs3 := HB2.out.size; clear hQ2 hB2)
                    | (at_builtin; ((with_reducible refine wpList_apRec (s := ?as9) (x := ?ax9) (rs := (rs.take m).map fun r => ((r.1 : Int), r.2.e)) (B := w8.heap.size) (q := wr.heap.size) ((m : Int), x.e) ?ag9 ?ao9 ?av9 ?aw9 HO2.out HQ2.out HML.out hs3 ?_); (case ag9 => rfl); (case ao9 => rfl); (case av9 => rfl); (case aw9 => rfl); intro v' w9 hO9 hg; have HX9 := hid (hid2 hO9 (HB2.out.grown hg hs3 (fun q hq => (HO2.out.lt q hq).1))); obtain ⟨g', cap', n', rfl, -⟩ := hO9.asSlice; clear hO9 hg HO HO2 HQ2))
                    | fail)
                  go_roundw
                  case rel => exact ⟨m + 1, by omega, rfl, by rw [show rs.take (m + 1) = rs.take m ++ [(m, x)] by rw [HRS.out]; exact rs_take HX.out, List.map_append]; exact HX9.out.1, HX9.out.2⟩
                  case measure => simp [intOf]; omega
                · have hmn : m = n := by omega
                  subst hmn
                  clear hB
                  have hKp := rKept (OwnG.slG kR HO.out) (by rw [List.length_map, HTL.out]; have := HN1.out; omega)
                  have hev : ((rs.take m).map fun r => ((r.1 : Int), r.2.e)).map (fun r => r.2) = evs (xs.take m) := by
                    rw [← rs_snd xs m, ← HRS.out, List.map_map]
                    unfold evs
                    rw [List.map_map]; rfl
                  rw [hev, kept_evs] at hKp
                  have HBWr := hid (HB8.out.trans (HB.out.mono HB8.out.size))
                  have HKSr := hid (SlG.on HKS8.out HB.out)
                  have HYAr := hid (HYA8.out.on HB.out)
                  clear hev hlt HO HB HKS8 HYA8 HB8 HROW8
                  go_wp2_with fail
                  go_at_call 14
                  refine hKp.mono ?_
                  rintro z wa ⟨ra, ca, rfl, hOa, hBa⟩
                  have HOa := hid (OwnG.slG kE hOa)
                  obtain ⟨ga, capa, na, rfl, -⟩ := hOa.asSlice
                  have HBWa := hid (HBWr.out.trans (hBa.mono HBWr.out.size))
                  have HYAa := hid (HYAr.out.on hBa)
                  have hOf := rOf (SlG.on HKSr.out hBa) (by have := (kept_short ys).1; rw [HYL.out] at this; have := HN1.out; omega)
                  clear hKp hOa hBa HBWr HKSr HYAr
                  go_wp2_with fail
                  go_at_call 9
                  refine hOf.mono ?_
                  rintro z wb ⟨rb, rfl, hOb, hBb⟩
                  have hSb := OwnG.slG kE hOb
                  obtain ⟨gb, capb, nb, rfl, -⟩ := hOb.asSlice
                  have HBWb := hid (HBWa.out.trans (hBb.mono HBWa.out.size))
                  have hck := ct_kept (xs := xs.take m) (ys := ys) HCT.out
                  have hSm := rSames (xs := keptG En.id ys) (ys := keptG En.id (xs.take m)) hSb (SlG.on HOa.out hBb)
                    (fun y hy => (HYAa.out.on hBb) y (keptG_sub ys y hy))
                    (fun y hy => (HA.out.on HBWb.out) y (List.mem_of_mem_take (keptG_sub _ y hy)))
                    (fun y hy => by
                      obtain ⟨q, hq⟩ := List.getElem?_of_mem (keptG_sub ys y hy)
                      have h1 := congrArg (fun l => l[q]?) HCT.out
                      simp only [List.getElem?_map, hq, Option.map_some] at h1
                      rcases hxq : (xs.take m)[q]? with _ | x
                      · rw [hxq] at h1; cases h1
                      · rw [hxq] at h1
                        have h2 : y.ct = x.ct := by simpa using h1
                        obtain ⟨q', hq'⟩ := List.getElem?_of_mem (List.mem_of_mem_take (List.mem_of_getElem? hxq))
                        have h3 := ct_short h2 (HSH.out q' x hq')
                        exact ⟨by have := h3.1; omega, by have := h3.2.1; omega, by have := h3.2.2; omega⟩)
                    (fun y hy => by
                      obtain ⟨q', hq'⟩ := List.getElem?_of_mem (List.mem_of_mem_take (keptG_sub _ y hy))
                      have h3 := HSH.out q' y hq'
                      exact ⟨by have := h3.1; omega, by have := h3.2.1; omega, by have := h3.2.2; omega⟩)
                    (by have := congrArg List.length hck; simpa using this)
                    (by have := (kept_short ys).2; rw [HYL.out] at this; have := HN1.out; omega)
                    (fun q y y' hy hy' => by
                      have h1 := congrArg (fun l => l[q]?) hck
                      simp only [List.getElem?_map, hy, hy', Option.map_some, Option.some.injEq] at h1
                      exact ct_same h1)
                  clear hOf hOb hBb hSb hck HYAa HOa HBWa
                  go_wp2_with (first
                    | (go_at_call 15; refine hSm.mono ?_; rintro z wd ⟨rfl, hBd⟩; have HBd := hid (HBWb.out.trans (hBd.mono HBWb.out.size)); clear hBd)
                    | (go_at_call 5; refine (hAl _).mono ?_; rintro z we ⟨rfl, hBe⟩; have HBe := hid (HBd.out.trans (hBe.mono HBd.out.size)); clear hBe)
                    | fail)
                  go_ret
                  exact ⟨rfl, HBe.out⟩
end Go.Proofs.YtpkkmfppdhjpkaaGreat
