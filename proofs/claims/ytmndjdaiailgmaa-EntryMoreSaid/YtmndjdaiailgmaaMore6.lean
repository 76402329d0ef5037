/- The law EntryMore: the walk. -/
import Derived.Test.YtmndjdaiailgmaaMoreStep
import Derived.Deep.CutRange
namespace Go.Proofs.Ytmndjdaiailgmaa
set_option linter.unusedVariables false
open Go.RowKit
open Go.Lib (hid)

set_option maxHeartbeats 8000000 in
set_option maxRecDepth 100000 in
theorem cMore_fits {e : Ev} {f a v : List C7} {acs : List Ac} {bl o cap : Nat} {ad : Option Addr} {w : World} (hf : Sl w e.fp.v f) (ha : Sl w e.xp.v a) (hv : Sl w e.vp.v v) (h : fitsE e = false) : Calls Try.prog 3 #[.agg e.arr, .slice ad acs.length cap] w fun x w' => x = .returned (.bool true) ∧ Below w.heap.size w w' := by
  have hF := fun W => cFits e W
  rw [h] at hF
  clear hf ha hv h
  have hL := fun W => cAlive6 W
  have HX : Hid (Ob (w.alloc (.cells e.arr 30)) (w.heap.size) 30 e) := hid (laid1_0 w (.cells e.arr 30))
  have HW : Hid (Below w.heap.size w (w.alloc (.cells e.arr 30))) := hid (laid1_b w (.cells e.arr 30))
  have tok : Hid (0 = 0) := hid rfl
  go_enter Try.func3, Try.ntmps3
  go_wp2_with (first
    | (clear tok; (with_reducible refine opaqueW (w.alloc (.cells e.arr 30)) ?_); intro W0 hW; rw [← hW] at HX HW; clear hW)
    | ((with_reducible refine loadC (x := ?lx1) (b := ?lb1) (T := 30) e ?lg1 ?lo1 ?lxx1 ?lc1 ?lh1); (case lg1 => rfl); (case lo1 => rfl); (case lxx1 => rfl); (case lc1 => exact HX.out))
    | fail)
  go_at_call 5
  refine (hF _).mono ?_
  rintro x w1 ⟨rfl, hB⟩
  have GX : Hid (Ob w1 (w.heap.size) 30 e) := hid (heapB (HX.out) hB (Array.getElem?_eq_some_iff.1 (HX.out)).1)
  have GW := hid ((HW.out).trans (hB.mono (HW.out).size))
  clear hB HX HW
  have HX := GX; clear GX
  have HW := GW; clear GW
  go_wp2_with fail
  go_at_call 7
  refine (hL _).mono ?_
  rintro x w3 ⟨rfl, hB⟩
  have GX : Hid (Ob w3 (w.heap.size) 30 e) := hid (heapB (HX.out) hB (Array.getElem?_eq_some_iff.1 (HX.out)).1)
  have GW := hid ((HW.out).trans (hB.mono (HW.out).size))
  clear hB HX HW
  have HX := GX; clear GX
  have HW := GW; clear GW
  go_wp2_with fail
  go_ret
  exact ⟨rfl, HW.out⟩
set_option maxHeartbeats 8000000 in
set_option maxRecDepth 100000 in
theorem cMore_long {e : Ev} {f a v : List C7} {acs : List Ac} {bl o cap : Nat} {ad : Option Addr} {w : World} (hf : Sl w e.fp.v f) (ha : Sl w e.xp.v a) (hv : Sl w e.vp.v v) (h : fitsE e = true) (hl : 80 < acs.length) : Calls Try.prog 3 #[.agg e.arr, .slice ad acs.length cap] w fun x w' => x = .returned (.bool true) ∧ Below w.heap.size w w' := by
  have hF := fun W => cFits e W
  rw [h] at hF
  clear hf ha hv h
  obtain ⟨n, hn⟩ : ∃ n, n = acs.length := ⟨_, rfl⟩
  rw [← hn] at hl ⊢
  have hl' : (80 : Int) < (n : Int) := by omega
  clear hn
  have hL := fun W => cAlive6 W
  have HX : Hid (Ob (w.alloc (.cells e.arr 30)) (w.heap.size) 30 e) := hid (laid1_0 w (.cells e.arr 30))
  have HW : Hid (Below w.heap.size w (w.alloc (.cells e.arr 30))) := hid (laid1_b w (.cells e.arr 30))
  have tok : Hid (0 = 0) := hid rfl
  go_enter Try.func3, Try.ntmps3
  go_wp2_with (first
    | (clear tok; (with_reducible refine opaqueW (w.alloc (.cells e.arr 30)) ?_); intro W0 hW; rw [← hW] at HX HW; clear hW)
    | ((with_reducible refine loadC (x := ?lx2) (b := ?lb2) (T := 30) e ?lg2 ?lo2 ?lxx2 ?lc2 ?lh2); (case lg2 => rfl); (case lo2 => rfl); (case lxx2 => rfl); (case lc2 => exact HX.out))
    | fail)
  go_at_call 5
  refine (hF _).mono ?_
  rintro x w1 ⟨rfl, hB⟩
  have GX : Hid (Ob w1 (w.heap.size) 30 e) := hid (heapB (HX.out) hB (Array.getElem?_eq_some_iff.1 (HX.out)).1)
  have GW := hid ((HW.out).trans (hB.mono (HW.out).size))
  clear hB HX HW
  have HX := GX; clear GX
  have HW := GW; clear GW
  go_wp2_with fail
  go_at_call 7
  refine (hL _).mono ?_
  rintro x w3 ⟨rfl, hB⟩
  have GX : Hid (Ob w3 (w.heap.size) 30 e) := hid (heapB (HX.out) hB (Array.getElem?_eq_some_iff.1 (HX.out)).1)
  have GW := hid ((HW.out).trans (hB.mono (HW.out).size))
  clear hB HX HW
  have HX := GX; clear GX
  have HW := GW; clear GW
  go_wp2_with fail
  go_ret
  exact ⟨rfl, HW.out⟩
set_option maxHeartbeats 8000000 in
set_option maxRecDepth 100000 in
theorem cMore_not {e : Ev} {f a v : List C7} {acs : List Ac} {bl o cap : Nat} {ad : Option Addr} {w : World} (hf : Sl w e.fp.v f) (ha : Sl w e.xp.v a) (hv : Sl w e.vp.v v) (h : fitsE e = true) (hl : acs.length ≤ 80) (lf : f.length ≤ 80) (la : a.length ≤ 80) (lv : v.length ≤ 80) (hr : rightE e f a v = false) : Calls Try.prog 3 #[.agg e.arr, .slice ad acs.length cap] w fun x w' => x = .returned (.bool true) ∧ Below w.heap.size w w' := by
  have hF := fun W => cFits e W
  rw [h] at hF
  have hR := fun (W : World) (hB : Below w.heap.size w W) => cRightE (hf.on hB) (ha.on hB) (hv.on hB) (by omega) (by omega) (by omega)
  rw [hr] at hR
  clear hf ha hv h hr
  obtain ⟨n, hn⟩ : ∃ n, n = acs.length := ⟨_, rfl⟩
  rw [← hn] at hl ⊢
  have hl' : ¬ (80 : Int) < (n : Int) := by omega
  have hl2 : decide ((80 : Int) < (n : Int)) = false := decide_eq_false hl'
  clear hn
  have hL := fun W => cAlive6 W
  have HX : Hid (Ob (w.alloc (.cells e.arr 30)) (w.heap.size) 30 e) := hid (laid1_0 w (.cells e.arr 30))
  have HW : Hid (Below w.heap.size w (w.alloc (.cells e.arr 30))) := hid (laid1_b w (.cells e.arr 30))
  have tok : Hid (0 = 0) := hid rfl
  go_enter Try.func3, Try.ntmps3
  go_wp2_with (first
    | (clear tok; (with_reducible refine opaqueW (w.alloc (.cells e.arr 30)) ?_); intro W0 hW; rw [← hW] at HX HW; clear hW)
    | ((with_reducible refine loadC (x := ?lx3) (b := ?lb3) (T := 30) e ?lg3 ?lo3 ?lxx3 ?lc3 ?lh3); (case lg3 => rfl); (case lo3 => rfl); (case lxx3 => rfl); (case lc3 => exact HX.out))
    | fail)
  go_at_call 5
  refine (hF _).mono ?_
  rintro x w1 ⟨rfl, hB⟩
  have GX : Hid (Ob w1 (w.heap.size) 30 e) := hid (heapB (HX.out) hB (Array.getElem?_eq_some_iff.1 (HX.out)).1)
  have GW := hid ((HW.out).trans (hB.mono (HW.out).size))
  clear hB HX HW
  have HX := GX; clear GX
  have HW := GW; clear GW
  go_wp2_with (first
    | ((with_reducible refine loadGC (x := ?lx4) (b := ?lb4) (T := 30) e ?lg4 ?lo4 ?lxx4 ?lc4 ?lh4); (case lo4 => rfl); (case lg4 => rfl); (case lxx4 => rfl); (case lc4 => exact HX.out))
    | fail)
  go_at_call 6
  refine (hR _ HW.out).mono ?_
  rintro x w2 ⟨rfl, hB⟩
  have GX : Hid (Ob w2 (w.heap.size) 30 e) := hid (heapB (HX.out) hB (Array.getElem?_eq_some_iff.1 (HX.out)).1)
  have GW := hid ((HW.out).trans (hB.mono (HW.out).size))
  clear hB HX HW
  have HX := GX; clear GX
  have HW := GW; clear GW
  go_wp2_with fail
  go_at_call 7
  refine (hL _).mono ?_
  rintro x w3 ⟨rfl, hB⟩
  have GX : Hid (Ob w3 (w.heap.size) 30 e) := hid (heapB (HX.out) hB (Array.getElem?_eq_some_iff.1 (HX.out)).1)
  have GW := hid ((HW.out).trans (hB.mono (HW.out).size))
  clear hB HX HW
  have HX := GX; clear GX
  have HW := GW; clear GW
  go_wp2_with fail
  go_ret
  exact ⟨rfl, HW.out⟩
set_option maxHeartbeats 8000000 in
set_option maxRecDepth 100000 in
theorem cMore_loop {e : Ev} {f a v : List C7} {acs : List Ac} {bl o cap : Nat} {ad : Option Addr} {w : World} (hf : Sl w e.fp.v f) (ha : Sl w e.xp.v a) (hv : Sl w e.vp.v v) (had : 0 < acs.length → ad = some ⟨bl, o, none⟩) (hA : ActsAt w bl o acs) (hbl : 0 < acs.length → bl < w.heap.size) (h : fitsE e = true) (hl : acs.length ≤ 80) (lf : f.length ≤ 80) (la : a.length ≤ 80) (lv : v.length ≤ 80) (hr : rightE e f a v = true) : Calls Try.prog 3 #[.agg e.arr, .slice ad acs.length cap] w fun x w' => x = .returned (.bool true) ∧ Below w.heap.size w w' := by
  have hF := fun W => cFits e W
  rw [h] at hF
  have hR := fun (W : World) (hB : Below w.heap.size w W) => cRightE (hf.on hB) (ha.on hB) (hv.on hB) (by omega) (by omega) (by omega)
  rw [hr] at hR
  have hL := fun W => cAlive6 W
  have hOf := fun (e : Ev) (W : World) => cOf e W
  obtain ⟨n, hn⟩ : ∃ n, n = acs.length := ⟨_, rfl⟩
  rw [← hn] at hl had hbl ⊢
  have HN := hid hn
  have hl' : ¬ (80 : Int) < (n : Int) := by omega
  have hl2 : decide ((80 : Int) < (n : Int)) = false := decide_eq_false hl'
  have HQ := hid (And.intro hf (And.intro ha (And.intro hv (And.intro hA hr))))
  clear hf ha hv h hr hA hn
  have HX : Hid (Ob (w.alloc (.cells e.arr 30)) (w.heap.size) 30 e) := hid (laid1_0 w (.cells e.arr 30))
  have HW : Hid (Below w.heap.size w (w.alloc (.cells e.arr 30))) := hid (laid1_b w (.cells e.arr 30))
  have tok : Hid (0 = 0) := hid rfl
  go_enter Try.func3, Try.ntmps3
  go_wp2_with (first
    | (clear tok; (with_reducible refine opaqueW (w.alloc (.cells e.arr 30)) ?_); intro W0 hW; rw [← hW] at HX HW; clear hW)
    | ((with_reducible refine loadC (x := ?lx5) (b := ?lb5) (T := 30) e ?lg5 ?lo5 ?lxx5 ?lc5 ?lh5); (case lg5 => rfl); (case lo5 => rfl); (case lxx5 => rfl); (case lc5 => exact HX.out))
    | fail)
  go_at_call 5
  refine (hF _).mono ?_
  rintro x w1 ⟨rfl, hB⟩
  have GX : Hid (Ob w1 (w.heap.size) 30 e) := hid (heapB (HX.out) hB (Array.getElem?_eq_some_iff.1 (HX.out)).1)
  have GW := hid ((HW.out).trans (hB.mono (HW.out).size))
  clear hB HX HW
  have HX := GX; clear GX
  have HW := GW; clear GW
  go_wp2_with (first
    | ((with_reducible refine loadGC (x := ?lx6) (b := ?lb6) (T := 30) e ?lg6 ?lo6 ?lxx6 ?lc6 ?lh6); (case lo6 => rfl); (case lg6 => rfl); (case lxx6 => rfl); (case lc6 => exact HX.out))
    | fail)
  go_at_call 6
  refine (hR _ HW.out).mono ?_
  rintro x w2 ⟨rfl, hB⟩
  have GX : Hid (Ob w2 (w.heap.size) 30 e) := hid (heapB (HX.out) hB (Array.getElem?_eq_some_iff.1 (HX.out)).1)
  have GW := hid ((HW.out).trans (hB.mono (HW.out).size))
  clear hB HX HW
  have HX := GX; clear GX
  have HW := GW; clear GW
  go_wp2_with fail
  go_loopw [6] (fun i wr => ∃ (j : Nat) (e : Ev) (f a v : List C7), j ≤ n ∧ i = .int .i64 j ∧ MoreS w acs wr e f a v) (fun i _ => n - (intOf i).toNat)
  case atStart => exact ⟨0, e, f, a, v, Nat.zero_le _, rfl, HX.out, HW.out, HQ.out.1, HQ.out.2.1, HQ.out.2.2.1, lf, la, lv, HQ.out.2.2.2.2⟩
  case round =>
    obtain ⟨j, e, f, a, v, hj, rfl, hS⟩ := hrel
    have HX1 := hid hS.ob
    have HW1 := hid hS.bel
    clear HX HW
    have HX := HX1
    have HW := HW1
    clear HX1 HW1
    clear lf la lv
    have lf := hS.lf
    have la := hS.la
    have lv := hS.lv
    have HS := hid hS
    clear hS
    by_cases hlt : j < n
    · obtain rfl := had (by omega)
      obtain ⟨A, hAj⟩ : ∃ A, acs[j]? = some A := ⟨acs[j]'(by rw [← HN.out]; exact hlt), List.getElem?_eq_getElem (by rw [← HN.out]; exact hlt)⟩
      have hbw := hbl (by omega)
      have HA := hid (actOn HQ.out.2.2.2.1 HW.out hbw hAj)
      obtain ⟨kA0, kA1, kA2, kA3, hAs, hA0, hA1⟩ := HA.out
      have hlt2 : (j : Int) < (n : Int) := by omega
      clear hAs hA0 hA1
      by_cases hp : A.p.n ≤ 80
      · have hp2 : ¬ (80 : Int) < (A.p.n : Int) := by omega
        go_wp2_with (first
          | ((with_reducible refine loadC (x := ?lx7) (b := ?lb7) (T := 30) e ?lg7 ?lo7 ?lxx7 ?lc7 ?lh7); (case lg7 => rfl); (case lo7 => rfl); (case lxx7 => rfl); (case lc7 => exact HX.out))
          | fail)
        go_at_call 8
        refine (hOf e _).mono ?_
        rintro x w3 ⟨rfl, hB⟩
        have GX : Hid (Ob w3 (w.heap.size) 30 e) := hid (heapB (HX.out) hB (Array.getElem?_eq_some_iff.1 (HX.out)).1)
        have GW := hid ((HW.out).trans (hB.mono (HW.out).size))
        clear kA0 kA1 kA2 kA3
        clear hB HX HW
        have HX := GX; clear GX
        have HW := GW; clear GW
        have ltMX : w.heap.size < w3.heap.size := (Array.getElem?_eq_some_iff.1 (HX.out)).1
        have ltwM : w.heap.size ≤ w3.heap.size := (HW.out).size
        have RM : Room (w3.alloc zeroE) (w3.heap.size) 36 := ⟨_, newAt (x := zeroE) rfl, rfl⟩
        go_upto_region 10 with (first
          | ((with_reducible refine uponStore (e := e) (RM) ?_); intro w4 hO hU; have GM := hid hO; have GX : Hid (Ob w4 (w.heap.size) 30 e) := hid (hU.ob ((obAlloc (x := zeroE) HX.out)) (by omega)); have GW := hid ((((HW.out).alloc (HW.out).size zeroE)).trans (hU.below _ (by first | exact Nat.le_refl _ | omega))); clear hO hU; clear HX HW; have HX := GX; clear GX; have HM := GM; clear GM; have HW := GW; clear GW))
        dsimp only [Act.put]
        obtain ⟨e1, m1, f1, a1, v1, HC, hNx, g1, g2, g3, g4, g5, g6⟩ := moreStep HS.out.sf HS.out.sa HS.out.sv lf la lv HS.out.ok (HQ.out.2.2.2.1 j A hAj).2.2.2.2.1 hp HA.out.2.2.2.2.2.1 HA.out.2.2.2.2.2.2
        have HNx := hid (And.intro hNx (And.intro g1 (And.intro g2 (And.intro g3 (And.intro g4 (And.intro g5 g6))))))
        have GC := hid HC
        clear HC hNx g1 g2 g3 g4 g5 g6
        go_cut [8, 9, 10] from 46 to 56 (fun p8 p9 b10 wx => ∃ (q8 q9 : Nat) (r : Bool), p8 = .pointer (some ⟨q8, 0, none⟩) ∧ p9 = .pointer (some ⟨q9, 0, none⟩) ∧ b10 = .bool r ∧ w.heap.size < q8 ∧ w3.heap.size < q8 ∧ w.heap.size < w3.heap.size ∧ Hid (Ob wx w.heap.size 30 e ∧ Ob wx w3.heap.size 36 e ∧ Ob wx q8 30 e1 ∧ Below w.heap.size w wx))
        case first =>
          go_wp2_with fail
          have hbw4 : bl < w4.heap.size := Nat.lt_of_lt_of_le hbw HW.out.size
          obtain ⟨kA0, kA1, kA2, kA3, _, _, _⟩ := actOn HQ.out.2.2.2.1 HW.out hbw hAj
          refine rh_start (S := fun W => Below w4.heap.size w4 W) (n := 16) (listed := #[false, false, false, false, false, false, false, false, false, false, false, false, false, false, false, false]) (by kernel_rfl) rfl rfl ?_
          have PX := HX
          have PM := HM
          have GX : Hid (Ob (w4.drew) (w.heap.size) 30 e) := hid (obDrew HX.out)
          have GM : Hid (Ob (w4.drew) (w3.heap.size) 36 e) := hid (obDrew HM.out)
          have GW : Hid (Below w.heap.size w w4.drew) := hid (belowDrew (HW.out))
          have HSd : Hid (Below w4.heap.size w4 w4.drew) := hid (belowDrew (Below.refl _ w4))
          clear HX HM HW
          have HX := GX; clear GX
          have HM := GM; clear GM
          have HW := GW; clear GW
          generalize World.drew w4 = wd at HX HM HW HSd ⊢
          refine rh_take (i := 2) (o := ?o8) (v := ?v8) (listed' := ?l8) (a' := ?a8) ?hi8 (by kernel_rfl) (by kernel_rfl) (by kernel_rfl) ?hq8 ?hl8 ?hw8 ?hv8 ?ha8 HSd.out ?hh8
          case hi8 => (simp only [List.getElem?_toArray, List.getElem?_cons_succ, List.getElem?_cons_zero]; try rfl)
          case hq8 => exact fun _ _ _ h => h
          case hl8 => (simp only [List.setIfInBounds_toArray, List.set_cons_succ, List.set_cons_zero]; try rfl)
          case hw8 => rfl
          case hv8 =>
            intro w
            go_simp
            try with_reducible rfl
          case ha8 => (simp only [Act.put, List.setIfInBounds_toArray, List.set_cons_succ, List.set_cons_zero]; try rfl)
          refine rh_take (i := 3) (o := ?o9) (v := ?v9) (listed' := ?l9) (a' := ?a9) ?hi9 (by kernel_rfl) (by kernel_rfl) (by kernel_rfl) ?hq9 ?hl9 ?hw9 ?hv9 ?ha9 HSd.out ?hh9
          case hi9 => (simp only [List.getElem?_toArray, List.getElem?_cons_succ, List.getElem?_cons_zero]; try rfl)
          case hq9 => exact fun _ _ _ h => h
          case hl9 => (simp only [List.setIfInBounds_toArray, List.set_cons_succ, List.set_cons_zero]; try rfl)
          case hw9 => rfl
          case hv9 =>
            intro w
            go_simp
            try with_reducible rfl
          case ha9 => (simp only [Act.put, List.setIfInBounds_toArray, List.set_cons_succ, List.set_cons_zero]; try rfl)
          refine rh_take (i := 4) (o := ?o10) (v := ?v10) (listed' := ?l10) (a' := ?a10) ?hi10 (by kernel_rfl) (by kernel_rfl) (by kernel_rfl) ?hq10 ?hl10 ?hw10 ?hv10 ?ha10 HSd.out ?hh10
          case hi10 => (simp only [List.getElem?_toArray, List.getElem?_cons_succ, List.getElem?_cons_zero]; try rfl)
          case hq10 => exact fun _ _ _ h => h
          case hl10 => (simp only [List.setIfInBounds_toArray, List.set_cons_succ, List.set_cons_zero]; try rfl)
          case hw10 => rfl
          case hv10 =>
            intro w
            go_simp
            try with_reducible rfl
          case ha10 => (simp only [Act.put, List.setIfInBounds_toArray, List.set_cons_succ, List.set_cons_zero]; try rfl)
          refine rh_load (i := 0) (o := ?o11) (cs := e.list) (T := 30) (x := ?x11) (b := ?b11) (q := ?q11) (listed' := ?l11) (a' := ?a11) ?hi11 (by kernel_rfl) (by kernel_rfl) (by kernel_rfl) ?hq11 ?hl11 ?hg11 ?ho11 ?hx11 ?hc11 Try.underlying30 rfl (infoEc e) ?ha11 HSd.out ?hh11
          case hi11 => (simp only [List.getElem?_toArray, List.getElem?_cons_zero]; try rfl)
          case hq11 => exact fun _ _ _ h => h
          case hl11 => (simp only [List.setIfInBounds_toArray, List.set_cons_zero]; try rfl)
          case hg11 => rfl
          case ho11 => rfl
          case hx11 => rfl
          case hc11 => exact fun W hW => Ob.range (T := 30) (heapB PX.out hW (Array.getElem?_eq_some_iff.1 PX.out).1)
          case ha11 => (show Act.put _ _ (Value.agg e.arr) = _); (simp only [Act.put, List.setIfInBounds_toArray, List.set_cons_succ, List.set_cons_zero]; try rfl)
          refine rh_load (i := 1) (o := ?o12) (cs := e.list) (T := 36) (x := ?x12) (b := ?b12) (q := ?q12) (listed' := ?l12) (a' := ?a12) ?hi12 (by kernel_rfl) (by kernel_rfl) (by kernel_rfl) ?hq12 ?hl12 ?hg12 ?ho12 ?hx12 ?hc12 Try.underlying36 rfl (infoE e) ?ha12 HSd.out ?hh12
          case hi12 => (simp only [List.getElem?_toArray, List.getElem?_cons_succ, List.getElem?_cons_zero]; try rfl)
          case hq12 => exact fun _ _ _ h => h
          case hl12 => (simp only [List.setIfInBounds_toArray, List.set_cons_succ, List.set_cons_zero]; try rfl)
          case hg12 => rfl
          case ho12 => rfl
          case hx12 => rfl
          case hc12 => exact fun W hW => Ob.range (T := 36) (heapB PM.out hW (Array.getElem?_eq_some_iff.1 PM.out).1)
          case ha12 => (show Act.put _ _ (Value.agg e.arr) = _); (simp only [Act.put, List.setIfInBounds_toArray, List.set_cons_succ, List.set_cons_zero]; try rfl)
          refine rh_load (i := 5) (o := ?o13) (cs := [.int .u8 A.k, .int .i64 A.b, .int .i64 A.t, .slice A.p.a A.p.n A.p.c]) (T := 35) (x := ?x13) (b := ?b13) (q := ?q13) (listed' := ?l13) (a' := ?a13) ?hi13 (by kernel_rfl) (by kernel_rfl) (by kernel_rfl) ?hq13 ?hl13 ?hg13 ?ho13 ?hx13 ?hc13 Try.underlying35 rfl infoA ?ha13 HSd.out ?hh13
          case hi13 => (simp only [List.getElem?_toArray, List.getElem?_cons_succ, List.getElem?_cons_zero]; try rfl)
          case hq13 => exact fun _ _ _ h => h
          case hl13 => (simp only [List.setIfInBounds_toArray, List.set_cons_succ, List.set_cons_zero]; try rfl)
          case hg13 => rfl
          case ho13 => rfl
          case hx13 => rfl
          case hc13 => exact fun W hW => rangeA ((hW.cell (p := ⟨bl, _, none⟩) hbw4).trans kA0) ((hW.cell (p := ⟨bl, _, none⟩) hbw4).trans kA1) ((hW.cell (p := ⟨bl, _, none⟩) hbw4).trans kA2) ((hW.cell (p := ⟨bl, _, none⟩) hbw4).trans kA3)
          case ha13 => (show Act.put _ _ (Value.agg #[.int .u8 A.k, .int .i64 A.b, .int .i64 A.t, .slice A.p.a A.p.n A.p.c]) = _); (simp only [Act.put, List.setIfInBounds_toArray, List.set_cons_succ, List.set_cons_zero]; try rfl)
          clear kA0 kA1 kA2 kA3
          refine wpAnyH_ready (rs := [6, 11, 12]) (by kernel_rfl) (by simp) ?_
          refine rh_cons (i := 6) (o := ?o14) (listed' := ?l14) ?hi14 ?hl14 ?hg14 ?hh14 ?hs14
          case hi14 => (simp only [List.getElem?_toArray, List.getElem?_cons_succ, List.getElem?_cons_zero]; try rfl)
          case hl14 => (simp only [List.setIfInBounds_toArray, List.set_cons_succ, List.set_cons_zero]; try rfl)
          case hg14 => rfl
          case hs14 =>
            refine rh_cons (i := 11) (o := ?o15) (listed' := ?l15) ?hi15 ?hl15 ?hg15 ?hh15 ?hs15
            case hi15 => (simp only [List.getElem?_toArray, List.getElem?_cons_succ, List.getElem?_cons_zero]; try rfl)
            case hl15 => (simp only [List.setIfInBounds_toArray, List.set_cons_succ, List.set_cons_zero]; try rfl)
            case hg15 => rfl
            case hs15 =>
              refine rh_cons (i := 12) (o := ?o16) (listed' := ?l16) ?hi16 ?hl16 ?hg16 ?hh16 ?hs16
              case hi16 => (simp only [List.getElem?_toArray, List.getElem?_cons_succ, List.getElem?_cons_zero]; try rfl)
              case hl16 => (simp only [List.setIfInBounds_toArray, List.set_cons_succ, List.set_cons_zero]; try rfl)
              case hg16 => rfl
              case hs16 =>
                exact AllReadyH.nil
              intro K hK
              go_simp
              have sV0 : w4.heap.size ≤ wd.heap.size := (HSd.out).size
              have ltVX : w.heap.size < wd.heap.size := (Array.getElem?_eq_some_iff.1 (HX.out)).1
              have ltVM : w3.heap.size < wd.heap.size := (Array.getElem?_eq_some_iff.1 (HM.out)).1
              have ltwV : w.heap.size ≤ wd.heap.size := (HW.out).size
              have RV : Room (wd.alloc zeroE) (wd.heap.size) 36 := ⟨_, newAt (x := zeroE) rfl, rfl⟩
              have sV : w4.heap.size ≤ wd.heap.size := by simpa using sV0
              clear sV0
              refine hK.out _ _ (((HSd.out).alloc (HSd.out).size _)) ?_
              clear hK K
              refine wpAnyH_ready (rs := [6, 11]) (by kernel_rfl) (by simp) ?_
              refine rh_cons (i := 6) (o := ?o17) (listed' := ?l17) ?hi17 ?hl17 ?hg17 ?hh17 ?hs17
              case hi17 => (simp only [List.getElem?_toArray, List.getElem?_cons_succ, List.getElem?_cons_zero]; try rfl)
              case hl17 => (simp only [List.setIfInBounds_toArray, List.set_cons_succ, List.set_cons_zero]; try rfl)
              case hg17 => rfl
              case hs17 =>
                refine rh_cons (i := 11) (o := ?o18) (listed' := ?l18) ?hi18 ?hl18 ?hg18 ?hh18 ?hs18
                case hi18 => (simp only [List.getElem?_toArray, List.getElem?_cons_succ, List.getElem?_cons_zero]; try rfl)
                case hl18 => (simp only [List.setIfInBounds_toArray, List.set_cons_succ, List.set_cons_zero]; try rfl)
                case hg18 => rfl
                case hs18 =>
                  exact AllReadyH.nil
                intro K hK
                go_simp
                have sB80 : w4.heap.size ≤ (wd.alloc zeroE).heap.size := (((HSd.out).alloc (HSd.out).size _)).size
                have ltB8X : w.heap.size < wd.heap.size + 1 := by have := (Array.getElem?_eq_some_iff.1 ((obAlloc (x := zeroE) HX.out))).1; simpa using this
                have ltB8M : w3.heap.size < wd.heap.size + 1 := by have := (Array.getElem?_eq_some_iff.1 ((obAlloc (x := zeroE) HM.out))).1; simpa using this
                have ltB8V : wd.heap.size < wd.heap.size + 1 := Nat.lt_succ_self _
                have ltwB8 : w.heap.size ≤ wd.heap.size + 1 := by have := (((HW.out).alloc (HW.out).size zeroE)).size; simpa using this
                have RB8 : Room ((wd.alloc zeroE).alloc zeroEc) (wd.heap.size + 1) 30 := ⟨_, newAt (x := zeroEc) (by simp), rfl⟩
                have sB8 : w4.heap.size ≤ wd.heap.size + 1 := by simpa using sB80
                clear sB80
                refine hK.out _ _ (((((HSd.out).alloc (HSd.out).size _)).alloc (((HSd.out).alloc (HSd.out).size _)).size _)) ?_
                clear hK K
                refine wpAnyH_ready (rs := [6]) (by kernel_rfl) (by simp) ?_
                refine rh_cons (i := 6) (o := ?o19) (listed' := ?l19) ?hi19 ?hl19 ?hg19 ?hh19 ?hs19
                case hi19 => (simp only [List.getElem?_toArray, List.getElem?_cons_succ, List.getElem?_cons_zero]; try rfl)
                case hl19 => (simp only [List.setIfInBounds_toArray, List.set_cons_succ, List.set_cons_zero]; try rfl)
                case hg19 => rfl
                case hs19 =>
                  exact AllReadyH.nil
                intro K hK
                go_simp
                go_at_call 9
                refine (GC.out _ (((((HW.out).alloc (HW.out).size zeroE)).alloc (((HW.out).alloc (HW.out).size zeroE)).size zeroEc))).mono ?_
                rintro x w11 ⟨⟨r, rfl⟩, hB⟩
                have HSw11 := hid ((((((HSd.out).alloc (HSd.out).size _)).alloc (((HSd.out).alloc (HSd.out).size _)).size _)).trans (hB.mono (((((HSd.out).alloc (HSd.out).size _)).alloc (((HSd.out).alloc (HSd.out).size _)).size _)).size))
                have GX : Hid (Ob w11 (w.heap.size) 30 e) := hid (heapB ((obAlloc (x := zeroEc) (obAlloc (x := zeroE) HX.out))) hB (Array.getElem?_eq_some_iff.1 ((obAlloc (x := zeroEc) (obAlloc (x := zeroE) HX.out)))).1)
                have GM : Hid (Ob w11 (w3.heap.size) 36 e) := hid (heapB ((obAlloc (x := zeroEc) (obAlloc (x := zeroE) HM.out))) hB (Array.getElem?_eq_some_iff.1 ((obAlloc (x := zeroEc) (obAlloc (x := zeroE) HM.out)))).1)
                have GV : Hid (Ob w11 (wd.heap.size) 36 zE) := hid (heapB ((obAlloc (x := zeroEc) (newAt (x := zeroE) (W := wd) rfl))) hB (Array.getElem?_eq_some_iff.1 ((obAlloc (x := zeroEc) (newAt (x := zeroE) (W := wd) rfl)))).1)
                have GB8 : Hid (Ob w11 (wd.heap.size + 1) 30 zE) := hid (heapB ((newAt (x := zeroEc) (W := (wd.alloc zeroE)) (by simp))) hB (Array.getElem?_eq_some_iff.1 ((newAt (x := zeroEc) (W := (wd.alloc zeroE)) (by simp)))).1)
                have GW := hid ((((((HW.out).alloc (HW.out).size zeroE)).alloc (((HW.out).alloc (HW.out).size zeroE)).size zeroEc)).trans (hB.mono (((((HW.out).alloc (HW.out).size zeroE)).alloc (((HW.out).alloc (HW.out).size zeroE)).size zeroEc)).size))
                clear hB HX HM HW
                have HX := GX; clear GX
                have HM := GM; clear GM
                have HV := GV; clear GV
                have HB8 := GB8; clear GB8
                have HW := GW; clear GW
                refine hK.out _ _ HSw11.out ?_
                clear hK K
                refine rh_take (i := 7) (o := ?o20) (v := ?v20) (listed' := ?l20) (a' := ?a20) ?hi20 (by kernel_rfl) (by kernel_rfl) (by kernel_rfl) ?hq20 ?hl20 ?hw20 ?hv20 ?ha20 HSw11.out ?hh20
                case hi20 => (simp only [List.getElem?_toArray, List.getElem?_cons_succ, List.getElem?_cons_zero]; try rfl)
                case hq20 => exact fun _ _ _ h => h
                case hl20 => (simp only [List.setIfInBounds_toArray, List.set_cons_succ, List.set_cons_zero]; try rfl)
                case hw20 => rfl
                case hv20 =>
                  intro w
                  go_simp
                  try with_reducible rfl
                case ha20 => (simp only [Act.put, List.setIfInBounds_toArray, List.set_cons_succ, List.set_cons_zero]; try rfl)
                refine rh_take (i := 8) (o := ?o21) (v := ?v21) (listed' := ?l21) (a' := ?a21) ?hi21 (by kernel_rfl) (by kernel_rfl) (by kernel_rfl) ?hq21 ?hl21 ?hw21 ?hv21 ?ha21 HSw11.out ?hh21
                case hi21 => (simp only [List.getElem?_toArray, List.getElem?_cons_succ, List.getElem?_cons_zero]; try rfl)
                case hq21 => exact fun _ _ _ h => h
                case hl21 => (simp only [List.setIfInBounds_toArray, List.set_cons_succ, List.set_cons_zero]; try rfl)
                case hw21 => rfl
                case hv21 =>
                  intro w
                  go_simp
                  try with_reducible rfl
                case ha21 => (simp only [Act.put, List.setIfInBounds_toArray, List.set_cons_succ, List.set_cons_zero]; try rfl)
                refine rh_take (i := 9) (o := ?o22) (v := ?v22) (listed' := ?l22) (a' := ?a22) ?hi22 (by kernel_rfl) (by kernel_rfl) (by kernel_rfl) ?hq22 ?hl22 ?hw22 ?hv22 ?ha22 HSw11.out ?hh22
                case hi22 => (simp only [List.getElem?_toArray, List.getElem?_cons_succ, List.getElem?_cons_zero]; try rfl)
                case hq22 => exact fun _ _ _ h => h
                case hl22 => (simp only [List.setIfInBounds_toArray, List.set_cons_succ, List.set_cons_zero]; try rfl)
                case hw22 => rfl
                case hv22 =>
                  intro w
                  go_simp
                  try with_reducible rfl
                case ha22 => (simp only [Act.put, List.setIfInBounds_toArray, List.set_cons_succ, List.set_cons_zero]; try rfl)
                refine rh_take (i := 10) (o := ?o23) (v := ?v23) (listed' := ?l23) (a' := ?a23) ?hi23 (by kernel_rfl) (by kernel_rfl) (by kernel_rfl) ?hq23 ?hl23 ?hw23 ?hv23 ?ha23 HSw11.out ?hh23
                case hi23 => (simp only [List.getElem?_toArray, List.getElem?_cons_succ, List.getElem?_cons_zero]; try rfl)
                case hq23 => exact fun _ _ _ h => h
                case hl23 => (simp only [List.setIfInBounds_toArray, List.set_cons_succ, List.set_cons_zero]; try rfl)
                case hw23 => rfl
                case hv23 =>
                  intro w
                  go_simp
                  try with_reducible rfl
                case ha23 => (simp only [Act.put, List.setIfInBounds_toArray, List.set_cons_succ, List.set_cons_zero]; try rfl)
                refine wpAnyH_ready (rs := [13]) (by kernel_rfl) (by simp) ?_
                refine rh_storeC (i := 13) (o := ?o24) (listed' := ?l24) (x := ?x24) (y := ?y24) (b := ?b24) (T := 30) e1 ?hi24 ?hl24 ?hg24 ?ho24 ?hx24 ?hy24 ?hd24 ?hc24 ?hh24 ?hs24
                case hi24 => (simp only [List.getElem?_toArray, List.getElem?_cons_succ, List.getElem?_cons_zero]; try rfl)
                case hl24 => (simp only [List.setIfInBounds_toArray, List.set_cons_succ, List.set_cons_zero]; try rfl)
                case hg24 => rfl
                case ho24 => rfl
                case hx24 => rfl
                case hy24 => rfl
                case hd24 => rfl
                case hc24 => exact Ob.room HB8.out
                case hs24 =>
                  exact AllReadyH.nil
                intro w12 hO hU
                have GB8 := hid hO
                have GX : Hid (Ob w12 (w.heap.size) 30 e) := hid (hU.ob (HX.out) (by omega))
                have GM : Hid (Ob w12 (w3.heap.size) 36 e) := hid (hU.ob (HM.out) (by omega))
                have GV : Hid (Ob w12 (wd.heap.size) 36 zE) := hid (hU.ob (HV.out) (by omega))
                have GW := hid ((HW.out).trans (hU.below _ (by first | exact Nat.le_refl _ | omega)))
                have HSw12 := hid ((HSw11.out).trans (hU.below _ (by omega)))
                clear hO hU
                clear HX HM HV HB8 HW
                have HX := GX
                clear GX
                have HM := GM
                clear GM
                have HV := GV
                clear GV
                have HB8 := GB8
                clear GB8
                have HW := GW
                clear GW
                refine ⟨HSw12.out, ?_⟩
                refine wpAnyH_ready (rs := [14]) (by kernel_rfl) (by simp) ?_
                refine rh_storeR (i := 14) (o := ?o25) (listed' := ?l25) (x := ?x25) (y := ?y25) (b := ?b25) (T := 36) m1 ?hi25 ?hl25 ?hg25 ?ho25 ?hx25 ?hy25 ?hd25 ?hc25 ?hh25 ?hs25
                case hi25 => (simp only [List.getElem?_toArray, List.getElem?_cons_succ, List.getElem?_cons_zero]; try rfl)
                case hl25 => (simp only [List.setIfInBounds_toArray, List.set_cons_succ, List.set_cons_zero]; try rfl)
                case hg25 => rfl
                case ho25 => rfl
                case hx25 => rfl
                case hy25 => rfl
                case hd25 => rfl
                case hc25 => exact Ob.room HV.out
                case hs25 =>
                  exact AllReadyH.nil
                intro w13 hO hU
                have GV := hid hO
                have GX : Hid (Ob w13 (w.heap.size) 30 e) := hid (hU.ob (HX.out) (by omega))
                have GM : Hid (Ob w13 (w3.heap.size) 36 e) := hid (hU.ob (HM.out) (by omega))
                have GB8 : Hid (Ob w13 (wd.heap.size + 1) 30 e1) := hid (hU.ob (HB8.out) (by omega))
                have GW := hid ((HW.out).trans (hU.below _ (by first | exact Nat.le_refl _ | omega)))
                have HSw13 := hid ((HSw12.out).trans (hU.below _ (by omega)))
                clear hO hU
                clear HX HM HV HB8 HW
                have HX := GX
                clear GX
                have HM := GM
                clear GM
                have HV := GV
                clear GV
                have HB8 := GB8
                clear GB8
                have HW := GW
                clear GW
                refine ⟨HSw13.out, ?_⟩
                refine wpAnyH_ready (rs := [15]) (by kernel_rfl) (by simp) ?_
                refine rh_assign (i := 15) (o := ?o26) (listed' := ?l26) (a' := ?a26) (x := ?x26) (v := ?v26) ?hi26 ?hl26 ?hg26 ?ho26 ?hv26 ?ha26 HSw13.out ?hh26 ?hs26
                case hi26 => (simp only [List.getElem?_toArray, List.getElem?_cons_succ, List.getElem?_cons_zero]; try rfl)
                case hl26 => (simp only [List.setIfInBounds_toArray, List.set_cons_succ, List.set_cons_zero]; try rfl)
                case hg26 => rfl
                case ho26 => rfl
                case hv26 => rfl
                case ha26 => (simp only [Act.put, List.setIfInBounds_toArray, List.set_cons_succ, List.set_cons_zero]; try rfl)
                case hs26 =>
                  exact AllReadyH.nil
                refine wpAnyH_done (by kernel_rfl) ?_ _
                go_wp2_with fail
                go_meet
                exact ⟨_, _, _, rfl, rfl, rfl, by omega, by omega, by omega, hid ⟨HX.out, HM.out, HB8.out, HW.out⟩⟩
              intro K hK
              go_simp
              go_at_call 9
              refine (GC.out _ (((HW.out).alloc (HW.out).size zeroE))).mono ?_
              rintro x w14 ⟨⟨r, rfl⟩, hB⟩
              have HSw14 := hid ((((HSd.out).alloc (HSd.out).size _)).trans (hB.mono (((HSd.out).alloc (HSd.out).size _)).size))
              have GX : Hid (Ob w14 (w.heap.size) 30 e) := hid (heapB ((obAlloc (x := zeroE) HX.out)) hB (Array.getElem?_eq_some_iff.1 ((obAlloc (x := zeroE) HX.out))).1)
              have GM : Hid (Ob w14 (w3.heap.size) 36 e) := hid (heapB ((obAlloc (x := zeroE) HM.out)) hB (Array.getElem?_eq_some_iff.1 ((obAlloc (x := zeroE) HM.out))).1)
              have GV : Hid (Ob w14 (wd.heap.size) 36 zE) := hid (heapB ((newAt (x := zeroE) (W := wd) rfl)) hB (Array.getElem?_eq_some_iff.1 ((newAt (x := zeroE) (W := wd) rfl))).1)
              have GW := hid ((((HW.out).alloc (HW.out).size zeroE)).trans (hB.mono (((HW.out).alloc (HW.out).size zeroE)).size))
              clear hB HX HM HW
              have HX := GX; clear GX
              have HM := GM; clear GM
              have HV := GV; clear GV
              have HW := GW; clear GW
              refine hK.out _ _ HSw14.out ?_
              clear hK K
              refine rh_take (i := 7) (o := ?o27) (v := ?v27) (listed' := ?l27) (a' := ?a27) ?hi27 (by kernel_rfl) (by kernel_rfl) (by kernel_rfl) ?hq27 ?hl27 ?hw27 ?hv27 ?ha27 HSw14.out ?hh27
              case hi27 => (simp only [List.getElem?_toArray, List.getElem?_cons_succ, List.getElem?_cons_zero]; try rfl)
              case hq27 => exact fun _ _ _ h => h
              case hl27 => (simp only [List.setIfInBounds_toArray, List.set_cons_succ, List.set_cons_zero]; try rfl)
              case hw27 => rfl
              case hv27 =>
                intro w
                go_simp
                try with_reducible rfl
              case ha27 => (simp only [Act.put, List.setIfInBounds_toArray, List.set_cons_succ, List.set_cons_zero]; try rfl)
              refine rh_take (i := 8) (o := ?o28) (v := ?v28) (listed' := ?l28) (a' := ?a28) ?hi28 (by kernel_rfl) (by kernel_rfl) (by kernel_rfl) ?hq28 ?hl28 ?hw28 ?hv28 ?ha28 HSw14.out ?hh28
              case hi28 => (simp only [List.getElem?_toArray, List.getElem?_cons_succ, List.getElem?_cons_zero]; try rfl)
              case hq28 => exact fun _ _ _ h => h
              case hl28 => (simp only [List.setIfInBounds_toArray, List.set_cons_succ, List.set_cons_zero]; try rfl)
              case hw28 => rfl
              case hv28 =>
                intro w
                go_simp
                try with_reducible rfl
              case ha28 => (simp only [Act.put, List.setIfInBounds_toArray, List.set_cons_succ, List.set_cons_zero]; try rfl)
              refine rh_take (i := 9) (o := ?o29) (v := ?v29) (listed' := ?l29) (a' := ?a29) ?hi29 (by kernel_rfl) (by kernel_rfl) (by kernel_rfl) ?hq29 ?hl29 ?hw29 ?hv29 ?ha29 HSw14.out ?hh29
              case hi29 => (simp only [List.getElem?_toArray, List.getElem?_cons_succ, List.getElem?_cons_zero]; try rfl)
              case hq29 => exact fun _ _ _ h => h
              case hl29 => (simp only [List.setIfInBounds_toArray, List.set_cons_succ, List.set_cons_zero]; try rfl)
              case hw29 => rfl
              case hv29 =>
                intro w
                go_simp
                try with_reducible rfl
              case ha29 => (simp only [Act.put, List.setIfInBounds_toArray, List.set_cons_succ, List.set_cons_zero]; try rfl)
              refine rh_take (i := 10) (o := ?o30) (v := ?v30) (listed' := ?l30) (a' := ?a30) ?hi30 (by kernel_rfl) (by kernel_rfl) (by kernel_rfl) ?hq30 ?hl30 ?hw30 ?hv30 ?ha30 HSw14.out ?hh30
              case hi30 => (simp only [List.getElem?_toArray, List.getElem?_cons_succ, List.getElem?_cons_zero]; try rfl)
              case hq30 => exact fun _ _ _ h => h
              case hl30 => (simp only [List.setIfInBounds_toArray, List.set_cons_succ, List.set_cons_zero]; try rfl)
              case hw30 => rfl
              case hv30 =>
                intro w
                go_simp
                try with_reducible rfl
              case ha30 => (simp only [Act.put, List.setIfInBounds_toArray, List.set_cons_succ, List.set_cons_zero]; try rfl)
              refine wpAnyH_ready (rs := [11]) (by kernel_rfl) (by simp) ?_
              refine rh_cons (i := 11) (o := ?o31) (listed' := ?l31) ?hi31 ?hl31 ?hg31 ?hh31 ?hs31
              case hi31 => (simp only [List.getElem?_toArray, List.getElem?_cons_succ, List.getElem?_cons_zero]; try rfl)
              case hl31 => (simp only [List.setIfInBounds_toArray, List.set_cons_succ, List.set_cons_zero]; try rfl)
              case hg31 => rfl
              case hs31 =>
                exact AllReadyH.nil
              intro K hK
              go_simp
              have sB80 : w4.heap.size ≤ w14.heap.size := (HSw14.out).size
              have ltB8X : w.heap.size < w14.heap.size := (Array.getElem?_eq_some_iff.1 (HX.out)).1
              have ltB8M : w3.heap.size < w14.heap.size := (Array.getElem?_eq_some_iff.1 (HM.out)).1
              have ltB8V : wd.heap.size < w14.heap.size := (Array.getElem?_eq_some_iff.1 (HV.out)).1
              have ltwB8 : w.heap.size ≤ w14.heap.size := (HW.out).size
              have RB8 : Room (w14.alloc zeroEc) (w14.heap.size) 30 := ⟨_, newAt (x := zeroEc) rfl, rfl⟩
              have sB8 : w4.heap.size ≤ w14.heap.size := by simpa using sB80
              clear sB80
              refine hK.out _ _ (((HSw14.out).alloc (HSw14.out).size _)) ?_
              clear hK K
              refine wpAnyH_ready (rs := [13]) (by kernel_rfl) (by simp) ?_
              refine rh_storeC (i := 13) (o := ?o32) (listed' := ?l32) (x := ?x32) (y := ?y32) (b := ?b32) (T := 30) e1 ?hi32 ?hl32 ?hg32 ?ho32 ?hx32 ?hy32 ?hd32 ?hc32 ?hh32 ?hs32
              case hi32 => (simp only [List.getElem?_toArray, List.getElem?_cons_succ, List.getElem?_cons_zero]; try rfl)
              case hl32 => (simp only [List.setIfInBounds_toArray, List.set_cons_succ, List.set_cons_zero]; try rfl)
              case hg32 => rfl
              case ho32 => rfl
              case hx32 => rfl
              case hy32 => rfl
              case hd32 => rfl
              case hc32 => exact RB8
              case hs32 =>
                exact AllReadyH.nil
              intro w15 hO hU
              have GB8 := hid hO
              have GX : Hid (Ob w15 (w.heap.size) 30 e) := hid (hU.ob ((obAlloc (x := zeroEc) HX.out)) (by omega))
              have GM : Hid (Ob w15 (w3.heap.size) 36 e) := hid (hU.ob ((obAlloc (x := zeroEc) HM.out)) (by omega))
              have GV : Hid (Ob w15 (wd.heap.size) 36 zE) := hid (hU.ob ((obAlloc (x := zeroEc) HV.out)) (by omega))
              have GW := hid ((((HW.out).alloc (HW.out).size zeroEc)).trans (hU.below _ (by first | exact Nat.le_refl _ | omega)))
              have HSw15 := hid ((((HSw14.out).alloc (HSw14.out).size _)).trans (hU.below _ (by omega)))
              clear hO hU
              clear HX HM HV HW
              have HX := GX
              clear GX
              have HM := GM
              clear GM
              have HV := GV
              clear GV
              have HB8 := GB8
              clear GB8
              have HW := GW
              clear GW
              refine ⟨HSw15.out, ?_⟩
              refine wpAnyH_ready (rs := [14]) (by kernel_rfl) (by simp) ?_
              refine rh_storeR (i := 14) (o := ?o33) (listed' := ?l33) (x := ?x33) (y := ?y33) (b := ?b33) (T := 36) m1 ?hi33 ?hl33 ?hg33 ?ho33 ?hx33 ?hy33 ?hd33 ?hc33 ?hh33 ?hs33
              case hi33 => (simp only [List.getElem?_toArray, List.getElem?_cons_succ, List.getElem?_cons_zero]; try rfl)
              case hl33 => (simp only [List.setIfInBounds_toArray, List.set_cons_succ, List.set_cons_zero]; try rfl)
              case hg33 => rfl
              case ho33 => rfl
              case hx33 => rfl
              case hy33 => rfl
              case hd33 => rfl
              case hc33 => exact Ob.room HV.out
              case hs33 =>
                exact AllReadyH.nil
              intro w16 hO hU
              have GV := hid hO
              have GX : Hid (Ob w16 (w.heap.size) 30 e) := hid (hU.ob (HX.out) (by omega))
              have GM : Hid (Ob w16 (w3.heap.size) 36 e) := hid (hU.ob (HM.out) (by omega))
              have GB8 : Hid (Ob w16 (w14.heap.size) 30 e1) := hid (hU.ob (HB8.out) (by omega))
              have GW := hid ((HW.out).trans (hU.below _ (by first | exact Nat.le_refl _ | omega)))
              have HSw16 := hid ((HSw15.out).trans (hU.below _ (by omega)))
              clear hO hU
              clear HX HM HV HB8 HW
              have HX := GX
              clear GX
              have HM := GM
              clear GM
              have HV := GV
              clear GV
              have HB8 := GB8
              clear GB8
              have HW := GW
              clear GW
              refine ⟨HSw16.out, ?_⟩
              refine wpAnyH_ready (rs := [15]) (by kernel_rfl) (by simp) ?_
              refine rh_assign (i := 15) (o := ?o34) (listed' := ?l34) (a' := ?a34) (x := ?x34) (v := ?v34) ?hi34 ?hl34 ?hg34 ?ho34 ?hv34 ?ha34 HSw16.out ?hh34 ?hs34
              case hi34 => (simp only [List.getElem?_toArray, List.getElem?_cons_succ, List.getElem?_cons_zero]; try rfl)
              case hl34 => (simp only [List.setIfInBounds_toArray, List.set_cons_succ, List.set_cons_zero]; try rfl)
              case hg34 => rfl
              case ho34 => rfl
              case hv34 => rfl
              case ha34 => (simp only [Act.put, List.setIfInBounds_toArray, List.set_cons_succ, List.set_cons_zero]; try rfl)
              case hs34 =>
                exact AllReadyH.nil
              refine wpAnyH_done (by kernel_rfl) ?_ _
              go_wp2_with fail
              go_meet
              exact ⟨_, _, _, rfl, rfl, rfl, by omega, by omega, by omega, hid ⟨HX.out, HM.out, HB8.out, HW.out⟩⟩
            intro K hK
            go_simp
            have sB80 : w4.heap.size ≤ wd.heap.size := (HSd.out).size
            have ltB8X : w.heap.size < wd.heap.size := (Array.getElem?_eq_some_iff.1 (HX.out)).1
            have ltB8M : w3.heap.size < wd.heap.size := (Array.getElem?_eq_some_iff.1 (HM.out)).1
            have ltwB8 : w.heap.size ≤ wd.heap.size := (HW.out).size
            have RB8 : Room (wd.alloc zeroEc) (wd.heap.size) 30 := ⟨_, newAt (x := zeroEc) rfl, rfl⟩
            have sB8 : w4.heap.size ≤ wd.heap.size := by simpa using sB80
            clear sB80
            refine hK.out _ _ (((HSd.out).alloc (HSd.out).size _)) ?_
            clear hK K
            refine wpAnyH_ready (rs := [6, 12]) (by kernel_rfl) (by simp) ?_
            refine rh_cons (i := 6) (o := ?o35) (listed' := ?l35) ?hi35 ?hl35 ?hg35 ?hh35 ?hs35
            case hi35 => (simp only [List.getElem?_toArray, List.getElem?_cons_succ, List.getElem?_cons_zero]; try rfl)
            case hl35 => (simp only [List.setIfInBounds_toArray, List.set_cons_succ, List.set_cons_zero]; try rfl)
            case hg35 => rfl
            case hs35 =>
              refine rh_cons (i := 12) (o := ?o36) (listed' := ?l36) ?hi36 ?hl36 ?hg36 ?hh36 ?hs36
              case hi36 => (simp only [List.getElem?_toArray, List.getElem?_cons_succ, List.getElem?_cons_zero]; try rfl)
              case hl36 => (simp only [List.setIfInBounds_toArray, List.set_cons_succ, List.set_cons_zero]; try rfl)
              case hg36 => rfl
              case hs36 =>
                exact AllReadyH.nil
              intro K hK
              go_simp
              have sV0 : w4.heap.size ≤ (wd.alloc zeroEc).heap.size := (((HSd.out).alloc (HSd.out).size _)).size
              have ltVX : w.heap.size < wd.heap.size + 1 := by have := (Array.getElem?_eq_some_iff.1 ((obAlloc (x := zeroEc) HX.out))).1; simpa using this
              have ltVM : w3.heap.size < wd.heap.size + 1 := by have := (Array.getElem?_eq_some_iff.1 ((obAlloc (x := zeroEc) HM.out))).1; simpa using this
              have ltVB8 : wd.heap.size < wd.heap.size + 1 := Nat.lt_succ_self _
              have ltwV : w.heap.size ≤ wd.heap.size + 1 := by have := (((HW.out).alloc (HW.out).size zeroEc)).size; simpa using this
              have RV : Room ((wd.alloc zeroEc).alloc zeroE) (wd.heap.size + 1) 36 := ⟨_, newAt (x := zeroE) (by simp), rfl⟩
              have sV : w4.heap.size ≤ wd.heap.size + 1 := by simpa using sV0
              clear sV0
              refine hK.out _ _ (((((HSd.out).alloc (HSd.out).size _)).alloc (((HSd.out).alloc (HSd.out).size _)).size _)) ?_
              clear hK K
              refine wpAnyH_ready (rs := [6]) (by kernel_rfl) (by simp) ?_
              refine rh_cons (i := 6) (o := ?o37) (listed' := ?l37) ?hi37 ?hl37 ?hg37 ?hh37 ?hs37
              case hi37 => (simp only [List.getElem?_toArray, List.getElem?_cons_succ, List.getElem?_cons_zero]; try rfl)
              case hl37 => (simp only [List.setIfInBounds_toArray, List.set_cons_succ, List.set_cons_zero]; try rfl)
              case hg37 => rfl
              case hs37 =>
                exact AllReadyH.nil
              intro K hK
              go_simp
              go_at_call 9
              refine (GC.out _ (((((HW.out).alloc (HW.out).size zeroEc)).alloc (((HW.out).alloc (HW.out).size zeroEc)).size zeroE))).mono ?_
              rintro x w17 ⟨⟨r, rfl⟩, hB⟩
              have HSw17 := hid ((((((HSd.out).alloc (HSd.out).size _)).alloc (((HSd.out).alloc (HSd.out).size _)).size _)).trans (hB.mono (((((HSd.out).alloc (HSd.out).size _)).alloc (((HSd.out).alloc (HSd.out).size _)).size _)).size))
              have GX : Hid (Ob w17 (w.heap.size) 30 e) := hid (heapB ((obAlloc (x := zeroE) (obAlloc (x := zeroEc) HX.out))) hB (Array.getElem?_eq_some_iff.1 ((obAlloc (x := zeroE) (obAlloc (x := zeroEc) HX.out)))).1)
              have GM : Hid (Ob w17 (w3.heap.size) 36 e) := hid (heapB ((obAlloc (x := zeroE) (obAlloc (x := zeroEc) HM.out))) hB (Array.getElem?_eq_some_iff.1 ((obAlloc (x := zeroE) (obAlloc (x := zeroEc) HM.out)))).1)
              have GB8 : Hid (Ob w17 (wd.heap.size) 30 zE) := hid (heapB ((obAlloc (x := zeroE) (newAt (x := zeroEc) (W := wd) rfl))) hB (Array.getElem?_eq_some_iff.1 ((obAlloc (x := zeroE) (newAt (x := zeroEc) (W := wd) rfl)))).1)
              have GV : Hid (Ob w17 (wd.heap.size + 1) 36 zE) := hid (heapB ((newAt (x := zeroE) (W := (wd.alloc zeroEc)) (by simp))) hB (Array.getElem?_eq_some_iff.1 ((newAt (x := zeroE) (W := (wd.alloc zeroEc)) (by simp)))).1)
              have GW := hid ((((((HW.out).alloc (HW.out).size zeroEc)).alloc (((HW.out).alloc (HW.out).size zeroEc)).size zeroE)).trans (hB.mono (((((HW.out).alloc (HW.out).size zeroEc)).alloc (((HW.out).alloc (HW.out).size zeroEc)).size zeroE)).size))
              clear hB HX HM HW
              have HX := GX; clear GX
              have HM := GM; clear GM
              have HB8 := GB8; clear GB8
              have HV := GV; clear GV
              have HW := GW; clear GW
              refine hK.out _ _ HSw17.out ?_
              clear hK K
              refine rh_take (i := 7) (o := ?o38) (v := ?v38) (listed' := ?l38) (a' := ?a38) ?hi38 (by kernel_rfl) (by kernel_rfl) (by kernel_rfl) ?hq38 ?hl38 ?hw38 ?hv38 ?ha38 HSw17.out ?hh38
              case hi38 => (simp only [List.getElem?_toArray, List.getElem?_cons_succ, List.getElem?_cons_zero]; try rfl)
              case hq38 => exact fun _ _ _ h => h
              case hl38 => (simp only [List.setIfInBounds_toArray, List.set_cons_succ, List.set_cons_zero]; try rfl)
              case hw38 => rfl
              case hv38 =>
                intro w
                go_simp
                try with_reducible rfl
              case ha38 => (simp only [Act.put, List.setIfInBounds_toArray, List.set_cons_succ, List.set_cons_zero]; try rfl)
              refine rh_take (i := 8) (o := ?o39) (v := ?v39) (listed' := ?l39) (a' := ?a39) ?hi39 (by kernel_rfl) (by kernel_rfl) (by kernel_rfl) ?hq39 ?hl39 ?hw39 ?hv39 ?ha39 HSw17.out ?hh39
              case hi39 => (simp only [List.getElem?_toArray, List.getElem?_cons_succ, List.getElem?_cons_zero]; try rfl)
              case hq39 => exact fun _ _ _ h => h
              case hl39 => (simp only [List.setIfInBounds_toArray, List.set_cons_succ, List.set_cons_zero]; try rfl)
              case hw39 => rfl
              case hv39 =>
                intro w
                go_simp
                try with_reducible rfl
              case ha39 => (simp only [Act.put, List.setIfInBounds_toArray, List.set_cons_succ, List.set_cons_zero]; try rfl)
              refine rh_take (i := 9) (o := ?o40) (v := ?v40) (listed' := ?l40) (a' := ?a40) ?hi40 (by kernel_rfl) (by kernel_rfl) (by kernel_rfl) ?hq40 ?hl40 ?hw40 ?hv40 ?ha40 HSw17.out ?hh40
              case hi40 => (simp only [List.getElem?_toArray, List.getElem?_cons_succ, List.getElem?_cons_zero]; try rfl)
              case hq40 => exact fun _ _ _ h => h
              case hl40 => (simp only [List.setIfInBounds_toArray, List.set_cons_succ, List.set_cons_zero]; try rfl)
              case hw40 => rfl
              case hv40 =>
                intro w
                go_simp
                try with_reducible rfl
              case ha40 => (simp only [Act.put, List.setIfInBounds_toArray, List.set_cons_succ, List.set_cons_zero]; try rfl)
              refine rh_take (i := 10) (o := ?o41) (v := ?v41) (listed' := ?l41) (a' := ?a41) ?hi41 (by kernel_rfl) (by kernel_rfl) (by kernel_rfl) ?hq41 ?hl41 ?hw41 ?hv41 ?ha41 HSw17.out ?hh41
              case hi41 => (simp only [List.getElem?_toArray, List.getElem?_cons_succ, List.getElem?_cons_zero]; try rfl)
              case hq41 => exact fun _ _ _ h => h
              case hl41 => (simp only [List.setIfInBounds_toArray, List.set_cons_succ, List.set_cons_zero]; try rfl)
              case hw41 => rfl
              case hv41 =>
                intro w
                go_simp
                try with_reducible rfl
              case ha41 => (simp only [Act.put, List.setIfInBounds_toArray, List.set_cons_succ, List.set_cons_zero]; try rfl)
              refine wpAnyH_ready (rs := [13]) (by kernel_rfl) (by simp) ?_
              refine rh_storeC (i := 13) (o := ?o42) (listed' := ?l42) (x := ?x42) (y := ?y42) (b := ?b42) (T := 30) e1 ?hi42 ?hl42 ?hg42 ?ho42 ?hx42 ?hy42 ?hd42 ?hc42 ?hh42 ?hs42
              case hi42 => (simp only [List.getElem?_toArray, List.getElem?_cons_succ, List.getElem?_cons_zero]; try rfl)
              case hl42 => (simp only [List.setIfInBounds_toArray, List.set_cons_succ, List.set_cons_zero]; try rfl)
              case hg42 => rfl
              case ho42 => rfl
              case hx42 => rfl
              case hy42 => rfl
              case hd42 => rfl
              case hc42 => exact Ob.room HB8.out
              case hs42 =>
                exact AllReadyH.nil
              intro w18 hO hU
              have GB8 := hid hO
              have GX : Hid (Ob w18 (w.heap.size) 30 e) := hid (hU.ob (HX.out) (by omega))
              have GM : Hid (Ob w18 (w3.heap.size) 36 e) := hid (hU.ob (HM.out) (by omega))
              have GV : Hid (Ob w18 (wd.heap.size + 1) 36 zE) := hid (hU.ob (HV.out) (by omega))
              have GW := hid ((HW.out).trans (hU.below _ (by first | exact Nat.le_refl _ | omega)))
              have HSw18 := hid ((HSw17.out).trans (hU.below _ (by omega)))
              clear hO hU
              clear HX HM HB8 HV HW
              have HX := GX
              clear GX
              have HM := GM
              clear GM
              have HB8 := GB8
              clear GB8
              have HV := GV
              clear GV
              have HW := GW
              clear GW
              refine ⟨HSw18.out, ?_⟩
              refine wpAnyH_ready (rs := [14]) (by kernel_rfl) (by simp) ?_
              refine rh_storeR (i := 14) (o := ?o43) (listed' := ?l43) (x := ?x43) (y := ?y43) (b := ?b43) (T := 36) m1 ?hi43 ?hl43 ?hg43 ?ho43 ?hx43 ?hy43 ?hd43 ?hc43 ?hh43 ?hs43
              case hi43 => (simp only [List.getElem?_toArray, List.getElem?_cons_succ, List.getElem?_cons_zero]; try rfl)
              case hl43 => (simp only [List.setIfInBounds_toArray, List.set_cons_succ, List.set_cons_zero]; try rfl)
              case hg43 => rfl
              case ho43 => rfl
              case hx43 => rfl
              case hy43 => rfl
              case hd43 => rfl
              case hc43 => exact Ob.room HV.out
              case hs43 =>
                exact AllReadyH.nil
              intro w19 hO hU
              have GV := hid hO
              have GX : Hid (Ob w19 (w.heap.size) 30 e) := hid (hU.ob (HX.out) (by omega))
              have GM : Hid (Ob w19 (w3.heap.size) 36 e) := hid (hU.ob (HM.out) (by omega))
              have GB8 : Hid (Ob w19 (wd.heap.size) 30 e1) := hid (hU.ob (HB8.out) (by omega))
              have GW := hid ((HW.out).trans (hU.below _ (by first | exact Nat.le_refl _ | omega)))
              have HSw19 := hid ((HSw18.out).trans (hU.below _ (by omega)))
              clear hO hU
              clear HX HM HB8 HV HW
              have HX := GX
              clear GX
              have HM := GM
              clear GM
              have HB8 := GB8
              clear GB8
              have HV := GV
              clear GV
              have HW := GW
              clear GW
              refine ⟨HSw19.out, ?_⟩
              refine wpAnyH_ready (rs := [15]) (by kernel_rfl) (by simp) ?_
              refine rh_assign (i := 15) (o := ?o44) (listed' := ?l44) (a' := ?a44) (x := ?x44) (v := ?v44) ?hi44 ?hl44 ?hg44 ?ho44 ?hv44 ?ha44 HSw19.out ?hh44 ?hs44
              case hi44 => (simp only [List.getElem?_toArray, List.getElem?_cons_succ, List.getElem?_cons_zero]; try rfl)
              case hl44 => (simp only [List.setIfInBounds_toArray, List.set_cons_succ, List.set_cons_zero]; try rfl)
              case hg44 => rfl
              case ho44 => rfl
              case hv44 => rfl
              case ha44 => (simp only [Act.put, List.setIfInBounds_toArray, List.set_cons_succ, List.set_cons_zero]; try rfl)
              case hs44 =>
                exact AllReadyH.nil
              refine wpAnyH_done (by kernel_rfl) ?_ _
              go_wp2_with fail
              go_meet
              exact ⟨_, _, _, rfl, rfl, rfl, by omega, by omega, by omega, hid ⟨HX.out, HM.out, HB8.out, HW.out⟩⟩
            intro K hK
            go_simp
            go_at_call 9
            refine (GC.out _ (((HW.out).alloc (HW.out).size zeroEc))).mono ?_
            rintro x w20 ⟨⟨r, rfl⟩, hB⟩
            have HSw20 := hid ((((HSd.out).alloc (HSd.out).size _)).trans (hB.mono (((HSd.out).alloc (HSd.out).size _)).size))
            have GX : Hid (Ob w20 (w.heap.size) 30 e) := hid (heapB ((obAlloc (x := zeroEc) HX.out)) hB (Array.getElem?_eq_some_iff.1 ((obAlloc (x := zeroEc) HX.out))).1)
            have GM : Hid (Ob w20 (w3.heap.size) 36 e) := hid (heapB ((obAlloc (x := zeroEc) HM.out)) hB (Array.getElem?_eq_some_iff.1 ((obAlloc (x := zeroEc) HM.out))).1)
            have GB8 : Hid (Ob w20 (wd.heap.size) 30 zE) := hid (heapB ((newAt (x := zeroEc) (W := wd) rfl)) hB (Array.getElem?_eq_some_iff.1 ((newAt (x := zeroEc) (W := wd) rfl))).1)
            have GW := hid ((((HW.out).alloc (HW.out).size zeroEc)).trans (hB.mono (((HW.out).alloc (HW.out).size zeroEc)).size))
            clear hB HX HM HW
            have HX := GX; clear GX
            have HM := GM; clear GM
            have HB8 := GB8; clear GB8
            have HW := GW; clear GW
            refine hK.out _ _ HSw20.out ?_
            clear hK K
            refine rh_take (i := 7) (o := ?o45) (v := ?v45) (listed' := ?l45) (a' := ?a45) ?hi45 (by kernel_rfl) (by kernel_rfl) (by kernel_rfl) ?hq45 ?hl45 ?hw45 ?hv45 ?ha45 HSw20.out ?hh45
            case hi45 => (simp only [List.getElem?_toArray, List.getElem?_cons_succ, List.getElem?_cons_zero]; try rfl)
            case hq45 => exact fun _ _ _ h => h
            case hl45 => (simp only [List.setIfInBounds_toArray, List.set_cons_succ, List.set_cons_zero]; try rfl)
            case hw45 => rfl
            case hv45 =>
              intro w
              go_simp
              try with_reducible rfl
            case ha45 => (simp only [Act.put, List.setIfInBounds_toArray, List.set_cons_succ, List.set_cons_zero]; try rfl)
            refine rh_take (i := 8) (o := ?o46) (v := ?v46) (listed' := ?l46) (a' := ?a46) ?hi46 (by kernel_rfl) (by kernel_rfl) (by kernel_rfl) ?hq46 ?hl46 ?hw46 ?hv46 ?ha46 HSw20.out ?hh46
            case hi46 => (simp only [List.getElem?_toArray, List.getElem?_cons_succ, List.getElem?_cons_zero]; try rfl)
            case hq46 => exact fun _ _ _ h => h
            case hl46 => (simp only [List.setIfInBounds_toArray, List.set_cons_succ, List.set_cons_zero]; try rfl)
            case hw46 => rfl
            case hv46 =>
              intro w
              go_simp
              try with_reducible rfl
            case ha46 => (simp only [Act.put, List.setIfInBounds_toArray, List.set_cons_succ, List.set_cons_zero]; try rfl)
            refine rh_take (i := 9) (o := ?o47) (v := ?v47) (listed' := ?l47) (a' := ?a47) ?hi47 (by kernel_rfl) (by kernel_rfl) (by kernel_rfl) ?hq47 ?hl47 ?hw47 ?hv47 ?ha47 HSw20.out ?hh47
            case hi47 => (simp only [List.getElem?_toArray, List.getElem?_cons_succ, List.getElem?_cons_zero]; try rfl)
            case hq47 => exact fun _ _ _ h => h
            case hl47 => (simp only [List.setIfInBounds_toArray, List.set_cons_succ, List.set_cons_zero]; try rfl)
            case hw47 => rfl
            case hv47 =>
              intro w
              go_simp
              try with_reducible rfl
            case ha47 => (simp only [Act.put, List.setIfInBounds_toArray, List.set_cons_succ, List.set_cons_zero]; try rfl)
            refine rh_take (i := 10) (o := ?o48) (v := ?v48) (listed' := ?l48) (a' := ?a48) ?hi48 (by kernel_rfl) (by kernel_rfl) (by kernel_rfl) ?hq48 ?hl48 ?hw48 ?hv48 ?ha48 HSw20.out ?hh48
            case hi48 => (simp only [List.getElem?_toArray, List.getElem?_cons_succ, List.getElem?_cons_zero]; try rfl)
            case hq48 => exact fun _ _ _ h => h
            case hl48 => (simp only [List.setIfInBounds_toArray, List.set_cons_succ, List.set_cons_zero]; try rfl)
            case hw48 => rfl
            case hv48 =>
              intro w
              go_simp
              try with_reducible rfl
            case ha48 => (simp only [Act.put, List.setIfInBounds_toArray, List.set_cons_succ, List.set_cons_zero]; try rfl)
            refine wpAnyH_ready (rs := [12]) (by kernel_rfl) (by simp) ?_
            refine rh_cons (i := 12) (o := ?o49) (listed' := ?l49) ?hi49 ?hl49 ?hg49 ?hh49 ?hs49
            case hi49 => (simp only [List.getElem?_toArray, List.getElem?_cons_succ, List.getElem?_cons_zero]; try rfl)
            case hl49 => (simp only [List.setIfInBounds_toArray, List.set_cons_succ, List.set_cons_zero]; try rfl)
            case hg49 => rfl
            case hs49 =>
              exact AllReadyH.nil
            intro K hK
            go_simp
            have sV0 : w4.heap.size ≤ w20.heap.size := (HSw20.out).size
            have ltVX : w.heap.size < w20.heap.size := (Array.getElem?_eq_some_iff.1 (HX.out)).1
            have ltVM : w3.heap.size < w20.heap.size := (Array.getElem?_eq_some_iff.1 (HM.out)).1
            have ltVB8 : wd.heap.size < w20.heap.size := (Array.getElem?_eq_some_iff.1 (HB8.out)).1
            have ltwV : w.heap.size ≤ w20.heap.size := (HW.out).size
            have RV : Room (w20.alloc zeroE) (w20.heap.size) 36 := ⟨_, newAt (x := zeroE) rfl, rfl⟩
            have sV : w4.heap.size ≤ w20.heap.size := by simpa using sV0
            clear sV0
            refine hK.out _ _ (((HSw20.out).alloc (HSw20.out).size _)) ?_
            clear hK K
            refine wpAnyH_ready (rs := [13]) (by kernel_rfl) (by simp) ?_
            refine rh_storeC (i := 13) (o := ?o50) (listed' := ?l50) (x := ?x50) (y := ?y50) (b := ?b50) (T := 30) e1 ?hi50 ?hl50 ?hg50 ?ho50 ?hx50 ?hy50 ?hd50 ?hc50 ?hh50 ?hs50
            case hi50 => (simp only [List.getElem?_toArray, List.getElem?_cons_succ, List.getElem?_cons_zero]; try rfl)
            case hl50 => (simp only [List.setIfInBounds_toArray, List.set_cons_succ, List.set_cons_zero]; try rfl)
            case hg50 => rfl
            case ho50 => rfl
            case hx50 => rfl
            case hy50 => rfl
            case hd50 => rfl
            case hc50 => exact Ob.room (obAlloc (x := zeroE) HB8.out)
            case hs50 =>
              exact AllReadyH.nil
            intro w21 hO hU
            have GB8 := hid hO
            have GX : Hid (Ob w21 (w.heap.size) 30 e) := hid (hU.ob ((obAlloc (x := zeroE) HX.out)) (by omega))
            have GM : Hid (Ob w21 (w3.heap.size) 36 e) := hid (hU.ob ((obAlloc (x := zeroE) HM.out)) (by omega))
            have GV : Hid (Ob w21 (w20.heap.size) 36 zE) := hid (hU.ob ((newAt (x := zeroE) (W := w20) rfl)) (by omega))
            have GW := hid ((((HW.out).alloc (HW.out).size zeroE)).trans (hU.below _ (by first | exact Nat.le_refl _ | omega)))
            have HSw21 := hid ((((HSw20.out).alloc (HSw20.out).size _)).trans (hU.below _ (by omega)))
            clear hO hU
            clear HX HM HB8 HW
            have HX := GX
            clear GX
            have HM := GM
            clear GM
            have HB8 := GB8
            clear GB8
            have HV := GV
            clear GV
            have HW := GW
            clear GW
            refine ⟨HSw21.out, ?_⟩
            refine wpAnyH_ready (rs := [14]) (by kernel_rfl) (by simp) ?_
            refine rh_storeR (i := 14) (o := ?o51) (listed' := ?l51) (x := ?x51) (y := ?y51) (b := ?b51) (T := 36) m1 ?hi51 ?hl51 ?hg51 ?ho51 ?hx51 ?hy51 ?hd51 ?hc51 ?hh51 ?hs51
            case hi51 => (simp only [List.getElem?_toArray, List.getElem?_cons_succ, List.getElem?_cons_zero]; try rfl)
            case hl51 => (simp only [List.setIfInBounds_toArray, List.set_cons_succ, List.set_cons_zero]; try rfl)
            case hg51 => rfl
            case ho51 => rfl
            case hx51 => rfl
            case hy51 => rfl
            case hd51 => rfl
            case hc51 => exact Ob.room HV.out
            case hs51 =>
              exact AllReadyH.nil
            intro w22 hO hU
            have GV := hid hO
            have GX : Hid (Ob w22 (w.heap.size) 30 e) := hid (hU.ob (HX.out) (by omega))
            have GM : Hid (Ob w22 (w3.heap.size) 36 e) := hid (hU.ob (HM.out) (by omega))
            have GB8 : Hid (Ob w22 (wd.heap.size) 30 e1) := hid (hU.ob (HB8.out) (by omega))
            have GW := hid ((HW.out).trans (hU.below _ (by first | exact Nat.le_refl _ | omega)))
            have HSw22 := hid ((HSw21.out).trans (hU.below _ (by omega)))
            clear hO hU
            clear HX HM HB8 HV HW
            have HX := GX
            clear GX
            have HM := GM
            clear GM
            have HB8 := GB8
            clear GB8
            have HV := GV
            clear GV
            have HW := GW
            clear GW
            refine ⟨HSw22.out, ?_⟩
            refine wpAnyH_ready (rs := [15]) (by kernel_rfl) (by simp) ?_
            refine rh_assign (i := 15) (o := ?o52) (listed' := ?l52) (a' := ?a52) (x := ?x52) (v := ?v52) ?hi52 ?hl52 ?hg52 ?ho52 ?hv52 ?ha52 HSw22.out ?hh52 ?hs52
            case hi52 => (simp only [List.getElem?_toArray, List.getElem?_cons_succ, List.getElem?_cons_zero]; try rfl)
            case hl52 => (simp only [List.setIfInBounds_toArray, List.set_cons_succ, List.set_cons_zero]; try rfl)
            case hg52 => rfl
            case ho52 => rfl
            case hv52 => rfl
            case ha52 => (simp only [Act.put, List.setIfInBounds_toArray, List.set_cons_succ, List.set_cons_zero]; try rfl)
            case hs52 =>
              exact AllReadyH.nil
            refine wpAnyH_done (by kernel_rfl) ?_ _
            go_wp2_with fail
            go_meet
            exact ⟨_, _, _, rfl, rfl, rfl, by omega, by omega, by omega, hid ⟨HX.out, HM.out, HB8.out, HW.out⟩⟩
          intro K hK
          go_simp
          go_at_call 9
          refine (GC.out _ (HW.out)).mono ?_
          rintro x w23 ⟨⟨r, rfl⟩, hB⟩
          have HSw23 := hid ((HSd.out).trans (hB.mono (HSd.out).size))
          have GX : Hid (Ob w23 (w.heap.size) 30 e) := hid (heapB (HX.out) hB (Array.getElem?_eq_some_iff.1 (HX.out)).1)
          have GM : Hid (Ob w23 (w3.heap.size) 36 e) := hid (heapB (HM.out) hB (Array.getElem?_eq_some_iff.1 (HM.out)).1)
          have GW := hid ((HW.out).trans (hB.mono (HW.out).size))
          clear hB HX HM HW
          have HX := GX; clear GX
          have HM := GM; clear GM
          have HW := GW; clear GW
          refine hK.out _ _ HSw23.out ?_
          clear hK K
          refine rh_take (i := 7) (o := ?o53) (v := ?v53) (listed' := ?l53) (a' := ?a53) ?hi53 (by kernel_rfl) (by kernel_rfl) (by kernel_rfl) ?hq53 ?hl53 ?hw53 ?hv53 ?ha53 HSw23.out ?hh53
          case hi53 => (simp only [List.getElem?_toArray, List.getElem?_cons_succ, List.getElem?_cons_zero]; try rfl)
          case hq53 => exact fun _ _ _ h => h
          case hl53 => (simp only [List.setIfInBounds_toArray, List.set_cons_succ, List.set_cons_zero]; try rfl)
          case hw53 => rfl
          case hv53 =>
            intro w
            go_simp
            try with_reducible rfl
          case ha53 => (simp only [Act.put, List.setIfInBounds_toArray, List.set_cons_succ, List.set_cons_zero]; try rfl)
          refine rh_take (i := 8) (o := ?o54) (v := ?v54) (listed' := ?l54) (a' := ?a54) ?hi54 (by kernel_rfl) (by kernel_rfl) (by kernel_rfl) ?hq54 ?hl54 ?hw54 ?hv54 ?ha54 HSw23.out ?hh54
          case hi54 => (simp only [List.getElem?_toArray, List.getElem?_cons_succ, List.getElem?_cons_zero]; try rfl)
          case hq54 => exact fun _ _ _ h => h
          case hl54 => (simp only [List.setIfInBounds_toArray, List.set_cons_succ, List.set_cons_zero]; try rfl)
          case hw54 => rfl
          case hv54 =>
            intro w
            go_simp
            try with_reducible rfl
          case ha54 => (simp only [Act.put, List.setIfInBounds_toArray, List.set_cons_succ, List.set_cons_zero]; try rfl)
          refine rh_take (i := 9) (o := ?o55) (v := ?v55) (listed' := ?l55) (a' := ?a55) ?hi55 (by kernel_rfl) (by kernel_rfl) (by kernel_rfl) ?hq55 ?hl55 ?hw55 ?hv55 ?ha55 HSw23.out ?hh55
          case hi55 => (simp only [List.getElem?_toArray, List.getElem?_cons_succ, List.getElem?_cons_zero]; try rfl)
          case hq55 => exact fun _ _ _ h => h
          case hl55 => (simp only [List.setIfInBounds_toArray, List.set_cons_succ, List.set_cons_zero]; try rfl)
          case hw55 => rfl
          case hv55 =>
            intro w
            go_simp
            try with_reducible rfl
          case ha55 => (simp only [Act.put, List.setIfInBounds_toArray, List.set_cons_succ, List.set_cons_zero]; try rfl)
          refine rh_take (i := 10) (o := ?o56) (v := ?v56) (listed' := ?l56) (a' := ?a56) ?hi56 (by kernel_rfl) (by kernel_rfl) (by kernel_rfl) ?hq56 ?hl56 ?hw56 ?hv56 ?ha56 HSw23.out ?hh56
          case hi56 => (simp only [List.getElem?_toArray, List.getElem?_cons_succ, List.getElem?_cons_zero]; try rfl)
          case hq56 => exact fun _ _ _ h => h
          case hl56 => (simp only [List.setIfInBounds_toArray, List.set_cons_succ, List.set_cons_zero]; try rfl)
          case hw56 => rfl
          case hv56 =>
            intro w
            go_simp
            try with_reducible rfl
          case ha56 => (simp only [Act.put, List.setIfInBounds_toArray, List.set_cons_succ, List.set_cons_zero]; try rfl)
          refine wpAnyH_ready (rs := [11, 12]) (by kernel_rfl) (by simp) ?_
          refine rh_cons (i := 11) (o := ?o57) (listed' := ?l57) ?hi57 ?hl57 ?hg57 ?hh57 ?hs57
          case hi57 => (simp only [List.getElem?_toArray, List.getElem?_cons_succ, List.getElem?_cons_zero]; try rfl)
          case hl57 => (simp only [List.setIfInBounds_toArray, List.set_cons_succ, List.set_cons_zero]; try rfl)
          case hg57 => rfl
          case hs57 =>
            refine rh_cons (i := 12) (o := ?o58) (listed' := ?l58) ?hi58 ?hl58 ?hg58 ?hh58 ?hs58
            case hi58 => (simp only [List.getElem?_toArray, List.getElem?_cons_succ, List.getElem?_cons_zero]; try rfl)
            case hl58 => (simp only [List.setIfInBounds_toArray, List.set_cons_succ, List.set_cons_zero]; try rfl)
            case hg58 => rfl
            case hs58 =>
              exact AllReadyH.nil
            intro K hK
            go_simp
            have sV0 : w4.heap.size ≤ w23.heap.size := (HSw23.out).size
            have ltVX : w.heap.size < w23.heap.size := (Array.getElem?_eq_some_iff.1 (HX.out)).1
            have ltVM : w3.heap.size < w23.heap.size := (Array.getElem?_eq_some_iff.1 (HM.out)).1
            have ltwV : w.heap.size ≤ w23.heap.size := (HW.out).size
            have RV : Room (w23.alloc zeroE) (w23.heap.size) 36 := ⟨_, newAt (x := zeroE) rfl, rfl⟩
            have sV : w4.heap.size ≤ w23.heap.size := by simpa using sV0
            clear sV0
            refine hK.out _ _ (((HSw23.out).alloc (HSw23.out).size _)) ?_
            clear hK K
            refine wpAnyH_ready (rs := [11]) (by kernel_rfl) (by simp) ?_
            refine rh_cons (i := 11) (o := ?o59) (listed' := ?l59) ?hi59 ?hl59 ?hg59 ?hh59 ?hs59
            case hi59 => (simp only [List.getElem?_toArray, List.getElem?_cons_succ, List.getElem?_cons_zero]; try rfl)
            case hl59 => (simp only [List.setIfInBounds_toArray, List.set_cons_succ, List.set_cons_zero]; try rfl)
            case hg59 => rfl
            case hs59 =>
              exact AllReadyH.nil
            intro K hK
            go_simp
            have sB80 : w4.heap.size ≤ (w23.alloc zeroE).heap.size := (((HSw23.out).alloc (HSw23.out).size _)).size
            have ltB8X : w.heap.size < w23.heap.size + 1 := by have := (Array.getElem?_eq_some_iff.1 ((obAlloc (x := zeroE) HX.out))).1; simpa using this
            have ltB8M : w3.heap.size < w23.heap.size + 1 := by have := (Array.getElem?_eq_some_iff.1 ((obAlloc (x := zeroE) HM.out))).1; simpa using this
            have ltB8V : w23.heap.size < w23.heap.size + 1 := Nat.lt_succ_self _
            have ltwB8 : w.heap.size ≤ w23.heap.size + 1 := by have := (((HW.out).alloc (HW.out).size zeroE)).size; simpa using this
            have RB8 : Room ((w23.alloc zeroE).alloc zeroEc) (w23.heap.size + 1) 30 := ⟨_, newAt (x := zeroEc) (by simp), rfl⟩
            have sB8 : w4.heap.size ≤ w23.heap.size + 1 := by simpa using sB80
            clear sB80
            refine hK.out _ _ (((((HSw23.out).alloc (HSw23.out).size _)).alloc (((HSw23.out).alloc (HSw23.out).size _)).size _)) ?_
            clear hK K
            refine wpAnyH_ready (rs := [13]) (by kernel_rfl) (by simp) ?_
            refine rh_storeC (i := 13) (o := ?o60) (listed' := ?l60) (x := ?x60) (y := ?y60) (b := ?b60) (T := 30) e1 ?hi60 ?hl60 ?hg60 ?ho60 ?hx60 ?hy60 ?hd60 ?hc60 ?hh60 ?hs60
            case hi60 => (simp only [List.getElem?_toArray, List.getElem?_cons_succ, List.getElem?_cons_zero]; try rfl)
            case hl60 => (simp only [List.setIfInBounds_toArray, List.set_cons_succ, List.set_cons_zero]; try rfl)
            case hg60 => rfl
            case ho60 => rfl
            case hx60 => rfl
            case hy60 => rfl
            case hd60 => rfl
            case hc60 => exact RB8
            case hs60 =>
              exact AllReadyH.nil
            intro w24 hO hU
            have GB8 := hid hO
            have GX : Hid (Ob w24 (w.heap.size) 30 e) := hid (hU.ob ((obAlloc (x := zeroEc) (obAlloc (x := zeroE) HX.out))) (by omega))
            have GM : Hid (Ob w24 (w3.heap.size) 36 e) := hid (hU.ob ((obAlloc (x := zeroEc) (obAlloc (x := zeroE) HM.out))) (by omega))
            have GV : Hid (Ob w24 (w23.heap.size) 36 zE) := hid (hU.ob ((obAlloc (x := zeroEc) (newAt (x := zeroE) (W := w23) rfl))) (by omega))
            have GW := hid ((((((HW.out).alloc (HW.out).size zeroE)).alloc (((HW.out).alloc (HW.out).size zeroE)).size zeroEc)).trans (hU.below _ (by first | exact Nat.le_refl _ | omega)))
            have HSw24 := hid ((((((HSw23.out).alloc (HSw23.out).size _)).alloc (((HSw23.out).alloc (HSw23.out).size _)).size _)).trans (hU.below _ (by omega)))
            clear hO hU
            clear HX HM HW
            have HX := GX
            clear GX
            have HM := GM
            clear GM
            have HV := GV
            clear GV
            have HB8 := GB8
            clear GB8
            have HW := GW
            clear GW
            refine ⟨HSw24.out, ?_⟩
            refine wpAnyH_ready (rs := [14]) (by kernel_rfl) (by simp) ?_
            refine rh_storeR (i := 14) (o := ?o61) (listed' := ?l61) (x := ?x61) (y := ?y61) (b := ?b61) (T := 36) m1 ?hi61 ?hl61 ?hg61 ?ho61 ?hx61 ?hy61 ?hd61 ?hc61 ?hh61 ?hs61
            case hi61 => (simp only [List.getElem?_toArray, List.getElem?_cons_succ, List.getElem?_cons_zero]; try rfl)
            case hl61 => (simp only [List.setIfInBounds_toArray, List.set_cons_succ, List.set_cons_zero]; try rfl)
            case hg61 => rfl
            case ho61 => rfl
            case hx61 => rfl
            case hy61 => rfl
            case hd61 => rfl
            case hc61 => exact Ob.room HV.out
            case hs61 =>
              exact AllReadyH.nil
            intro w25 hO hU
            have GV := hid hO
            have GX : Hid (Ob w25 (w.heap.size) 30 e) := hid (hU.ob (HX.out) (by omega))
            have GM : Hid (Ob w25 (w3.heap.size) 36 e) := hid (hU.ob (HM.out) (by omega))
            have GB8 : Hid (Ob w25 (w23.heap.size + 1) 30 e1) := hid (hU.ob (HB8.out) (by omega))
            have GW := hid ((HW.out).trans (hU.below _ (by first | exact Nat.le_refl _ | omega)))
            have HSw25 := hid ((HSw24.out).trans (hU.below _ (by omega)))
            clear hO hU
            clear HX HM HV HB8 HW
            have HX := GX
            clear GX
            have HM := GM
            clear GM
            have HV := GV
            clear GV
            have HB8 := GB8
            clear GB8
            have HW := GW
            clear GW
            refine ⟨HSw25.out, ?_⟩
            refine wpAnyH_ready (rs := [15]) (by kernel_rfl) (by simp) ?_
            refine rh_assign (i := 15) (o := ?o62) (listed' := ?l62) (a' := ?a62) (x := ?x62) (v := ?v62) ?hi62 ?hl62 ?hg62 ?ho62 ?hv62 ?ha62 HSw25.out ?hh62 ?hs62
            case hi62 => (simp only [List.getElem?_toArray, List.getElem?_cons_succ, List.getElem?_cons_zero]; try rfl)
            case hl62 => (simp only [List.setIfInBounds_toArray, List.set_cons_succ, List.set_cons_zero]; try rfl)
            case hg62 => rfl
            case ho62 => rfl
            case hv62 => rfl
            case ha62 => (simp only [Act.put, List.setIfInBounds_toArray, List.set_cons_succ, List.set_cons_zero]; try rfl)
            case hs62 =>
              exact AllReadyH.nil
            refine wpAnyH_done (by kernel_rfl) ?_ _
            go_wp2_with fail
            go_meet
            exact ⟨_, _, _, rfl, rfl, rfl, by omega, by omega, by omega, hid ⟨HX.out, HM.out, HB8.out, HW.out⟩⟩
          intro K hK
          go_simp
          have sB80 : w4.heap.size ≤ w23.heap.size := (HSw23.out).size
          have ltB8X : w.heap.size < w23.heap.size := (Array.getElem?_eq_some_iff.1 (HX.out)).1
          have ltB8M : w3.heap.size < w23.heap.size := (Array.getElem?_eq_some_iff.1 (HM.out)).1
          have ltwB8 : w.heap.size ≤ w23.heap.size := (HW.out).size
          have RB8 : Room (w23.alloc zeroEc) (w23.heap.size) 30 := ⟨_, newAt (x := zeroEc) rfl, rfl⟩
          have sB8 : w4.heap.size ≤ w23.heap.size := by simpa using sB80
          clear sB80
          refine hK.out _ _ (((HSw23.out).alloc (HSw23.out).size _)) ?_
          clear hK K
          refine wpAnyH_ready (rs := [12]) (by kernel_rfl) (by simp) ?_
          refine rh_cons (i := 12) (o := ?o63) (listed' := ?l63) ?hi63 ?hl63 ?hg63 ?hh63 ?hs63
          case hi63 => (simp only [List.getElem?_toArray, List.getElem?_cons_succ, List.getElem?_cons_zero]; try rfl)
          case hl63 => (simp only [List.setIfInBounds_toArray, List.set_cons_succ, List.set_cons_zero]; try rfl)
          case hg63 => rfl
          case hs63 =>
            exact AllReadyH.nil
          intro K hK
          go_simp
          have sV0 : w4.heap.size ≤ (w23.alloc zeroEc).heap.size := (((HSw23.out).alloc (HSw23.out).size _)).size
          have ltVX : w.heap.size < w23.heap.size + 1 := by have := (Array.getElem?_eq_some_iff.1 ((obAlloc (x := zeroEc) HX.out))).1; simpa using this
          have ltVM : w3.heap.size < w23.heap.size + 1 := by have := (Array.getElem?_eq_some_iff.1 ((obAlloc (x := zeroEc) HM.out))).1; simpa using this
          have ltVB8 : w23.heap.size < w23.heap.size + 1 := Nat.lt_succ_self _
          have ltwV : w.heap.size ≤ w23.heap.size + 1 := by have := (((HW.out).alloc (HW.out).size zeroEc)).size; simpa using this
          have RV : Room ((w23.alloc zeroEc).alloc zeroE) (w23.heap.size + 1) 36 := ⟨_, newAt (x := zeroE) (by simp), rfl⟩
          have sV : w4.heap.size ≤ w23.heap.size + 1 := by simpa using sV0
          clear sV0
          refine hK.out _ _ (((((HSw23.out).alloc (HSw23.out).size _)).alloc (((HSw23.out).alloc (HSw23.out).size _)).size _)) ?_
          clear hK K
          refine wpAnyH_ready (rs := [13]) (by kernel_rfl) (by simp) ?_
          refine rh_storeC (i := 13) (o := ?o64) (listed' := ?l64) (x := ?x64) (y := ?y64) (b := ?b64) (T := 30) e1 ?hi64 ?hl64 ?hg64 ?ho64 ?hx64 ?hy64 ?hd64 ?hc64 ?hh64 ?hs64
          case hi64 => (simp only [List.getElem?_toArray, List.getElem?_cons_succ, List.getElem?_cons_zero]; try rfl)
          case hl64 => (simp only [List.setIfInBounds_toArray, List.set_cons_succ, List.set_cons_zero]; try rfl)
          case hg64 => rfl
          case ho64 => rfl
          case hx64 => rfl
          case hy64 => rfl
          case hd64 => rfl
          case hc64 => exact (roomAlloc RB8)
          case hs64 =>
            exact AllReadyH.nil
          intro w26 hO hU
          have GB8 := hid hO
          have GX : Hid (Ob w26 (w.heap.size) 30 e) := hid (hU.ob ((obAlloc (x := zeroE) (obAlloc (x := zeroEc) HX.out))) (by omega))
          have GM : Hid (Ob w26 (w3.heap.size) 36 e) := hid (hU.ob ((obAlloc (x := zeroE) (obAlloc (x := zeroEc) HM.out))) (by omega))
          have GV : Hid (Ob w26 (w23.heap.size + 1) 36 zE) := hid (hU.ob ((newAt (x := zeroE) (W := (w23.alloc zeroEc)) (by simp))) (by omega))
          have GW := hid ((((((HW.out).alloc (HW.out).size zeroEc)).alloc (((HW.out).alloc (HW.out).size zeroEc)).size zeroE)).trans (hU.below _ (by first | exact Nat.le_refl _ | omega)))
          have HSw26 := hid ((((((HSw23.out).alloc (HSw23.out).size _)).alloc (((HSw23.out).alloc (HSw23.out).size _)).size _)).trans (hU.below _ (by omega)))
          clear hO hU
          clear HX HM HW
          have HX := GX
          clear GX
          have HM := GM
          clear GM
          have HB8 := GB8
          clear GB8
          have HV := GV
          clear GV
          have HW := GW
          clear GW
          refine ⟨HSw26.out, ?_⟩
          refine wpAnyH_ready (rs := [14]) (by kernel_rfl) (by simp) ?_
          refine rh_storeR (i := 14) (o := ?o65) (listed' := ?l65) (x := ?x65) (y := ?y65) (b := ?b65) (T := 36) m1 ?hi65 ?hl65 ?hg65 ?ho65 ?hx65 ?hy65 ?hd65 ?hc65 ?hh65 ?hs65
          case hi65 => (simp only [List.getElem?_toArray, List.getElem?_cons_succ, List.getElem?_cons_zero]; try rfl)
          case hl65 => (simp only [List.setIfInBounds_toArray, List.set_cons_succ, List.set_cons_zero]; try rfl)
          case hg65 => rfl
          case ho65 => rfl
          case hx65 => rfl
          case hy65 => rfl
          case hd65 => rfl
          case hc65 => exact Ob.room HV.out
          case hs65 =>
            exact AllReadyH.nil
          intro w27 hO hU
          have GV := hid hO
          have GX : Hid (Ob w27 (w.heap.size) 30 e) := hid (hU.ob (HX.out) (by omega))
          have GM : Hid (Ob w27 (w3.heap.size) 36 e) := hid (hU.ob (HM.out) (by omega))
          have GB8 : Hid (Ob w27 (w23.heap.size) 30 e1) := hid (hU.ob (HB8.out) (by omega))
          have GW := hid ((HW.out).trans (hU.below _ (by first | exact Nat.le_refl _ | omega)))
          have HSw27 := hid ((HSw26.out).trans (hU.below _ (by omega)))
          clear hO hU
          clear HX HM HB8 HV HW
          have HX := GX
          clear GX
          have HM := GM
          clear GM
          have HB8 := GB8
          clear GB8
          have HV := GV
          clear GV
          have HW := GW
          clear GW
          refine ⟨HSw27.out, ?_⟩
          refine wpAnyH_ready (rs := [15]) (by kernel_rfl) (by simp) ?_
          refine rh_assign (i := 15) (o := ?o66) (listed' := ?l66) (a' := ?a66) (x := ?x66) (v := ?v66) ?hi66 ?hl66 ?hg66 ?ho66 ?hv66 ?ha66 HSw27.out ?hh66 ?hs66
          case hi66 => (simp only [List.getElem?_toArray, List.getElem?_cons_succ, List.getElem?_cons_zero]; try rfl)
          case hl66 => (simp only [List.setIfInBounds_toArray, List.set_cons_succ, List.set_cons_zero]; try rfl)
          case hg66 => rfl
          case ho66 => rfl
          case hv66 => rfl
          case ha66 => (simp only [Act.put, List.setIfInBounds_toArray, List.set_cons_succ, List.set_cons_zero]; try rfl)
          case hs66 =>
            exact AllReadyH.nil
          refine wpAnyH_done (by kernel_rfl) ?_ _
          go_wp2_with fail
          go_meet
          exact ⟨_, _, _, rfl, rfl, rfl, by omega, by omega, by omega, hid ⟨HX.out, HM.out, HB8.out, HW.out⟩⟩
        case rest =>
          obtain ⟨q8, q9, r, rfl, rfl, rfl, lt8, ltM, ltw, HH⟩ := hcut
          clear GC
          have HX := hid HH.out.1
          have HM := hid HH.out.2.1
          have HN8 := hid HH.out.2.2.1
          have HW := hid HH.out.2.2.2
          clear HH
          have kNx := HNx.out.1
          have hc1 := kNx.c
          have hpr := kNx.pr
          have hhi := kNx.hi
          have hlo := kNx.lo
          have hfr := kNx.fr
          have hR1 := fun (W : World) (hB : Below w.heap.size w W) => cRightE (HNx.out.2.1.on hB) (HNx.out.2.2.1.on hB) (HNx.out.2.2.2.1.on hB) (Nat.le_trans HNx.out.2.2.2.2.1 (by decide)) (Nat.le_trans HNx.out.2.2.2.2.2.1 (by decide)) (Nat.le_trans HNx.out.2.2.2.2.2.2 (by decide))
          rw [kNx.ok] at hR1
          clear kNx
          go_upto_region 11 with fail
          go_cut [106] from 57 to 105 (fun u wx => u = .bool false ∧ Hid (Ob wx w.heap.size 30 e ∧ Ob wx w3.heap.size 36 e ∧ Ob wx q8 30 e1 ∧ Below w.heap.size w wx))
          case first =>
            have hpr2 : decide (e1.pr < e.pr) = false := decide_eq_false hpr
            have hhi2 : decide (e1.hi < e.hi) = false := decide_eq_false hhi
            have hE := neqC (a := e.c) (b := e.c) (C7.same_iff.2 rfl)
            have hG := fun op p q W => guardC op p q e.c e.c W
            have HC1 := hid hc1
            clear hc1
            have HLO := hid hlo
            have HFR := hid hfr
            clear hlo hfr
            by_cases h0 : e.lo = 0
            · rcases h1 : e.fr with _ | _
              · skip
                have kX7 : wc.cell? ⟨w.heap.size, 7, none⟩ = some (.int .i64 e.pr) := (HX.out).cell (j := 7) rfl
                have kX8 : wc.cell? ⟨w.heap.size, 8, none⟩ = some (.int .i64 e.lo) := (HX.out).cell (j := 8) rfl
                have kX9 : wc.cell? ⟨w.heap.size, 9, none⟩ = some (.int .i64 e.hi) := (HX.out).cell (j := 9) rfl
                have kX15 : wc.cell? ⟨w.heap.size, 15, none⟩ = some (.bool e.fr) := (HX.out).cell (j := 15) rfl
                have kN87 : wc.cell? ⟨q8, 7, none⟩ = some (.int .i64 e1.pr) := (HN8.out).cell (j := 7) rfl
                have kN88 : wc.cell? ⟨q8, 8, none⟩ = some (.int .i64 e1.lo) := (HN8.out).cell (j := 8) rfl
                have kN89 : wc.cell? ⟨q8, 9, none⟩ = some (.int .i64 e1.hi) := (HN8.out).cell (j := 9) rfl
                have kN815 : wc.cell? ⟨q8, 15, none⟩ = some (.bool e1.fr) := (HN8.out).cell (j := 15) rfl
                rw [h0] at kX8
                rw [h1] at kX15
                go_wp2_with (first
                  | ((with_reducible refine loadGC (x := ?lx67) (b := ?lb67) (T := 30) e1 ?lg67 ?lo67 ?lxx67 ?lc67 ?lh67); (case lo67 => rfl); (case lg67 => rfl); (case lxx67 => rfl); (case lc67 => exact HN8.out)))
                go_at_call 6
                refine (hR1 _ HW.out).mono ?_
                rintro x w20 ⟨rfl, hB⟩
                have GX : Hid (Ob w20 (w.heap.size) 30 e) := hid (heapB (HX.out) hB (Array.getElem?_eq_some_iff.1 (HX.out)).1)
                have GM : Hid (Ob w20 (w3.heap.size) 36 e) := hid (heapB (HM.out) hB (Array.getElem?_eq_some_iff.1 (HM.out)).1)
                have GN8 : Hid (Ob w20 (q8) 30 e1) := hid (heapB (HN8.out) hB (Array.getElem?_eq_some_iff.1 (HN8.out)).1)
                have GW := hid ((HW.out).trans (hB.mono (HW.out).size))
                clear kX7 kX8 kX9 kX15 kN87 kN88 kN89 kN815
                clear hB HX HM HN8 HW
                have HX := GX; clear GX
                have HM := GM; clear GM
                have HN8 := GN8; clear GN8
                have HW := GW; clear GW
                have kX0 : w20.cell? ⟨w.heap.size, 0, none⟩ = some (.int .i64 e.c.i) := (HX.out).cell (j := 0) rfl
                have kN80 : w20.cell? ⟨q8, 0, none⟩ = some (.int .i64 e.c.i) := (HN8.out).cell (j := 0) (by rw [← HC1.out]; rfl)
                have kX1 : w20.cell? ⟨w.heap.size, 1, none⟩ = some (.int .i64 e.c.k) := (HX.out).cell (j := 1) rfl
                have kN81 : w20.cell? ⟨q8, 1, none⟩ = some (.int .i64 e.c.k) := (HN8.out).cell (j := 1) (by rw [← HC1.out]; rfl)
                have kX2 : w20.cell? ⟨w.heap.size, 2, none⟩ = some (.int .i64 e.c.s) := (HX.out).cell (j := 2) rfl
                have kN82 : w20.cell? ⟨q8, 2, none⟩ = some (.int .i64 e.c.s) := (HN8.out).cell (j := 2) (by rw [← HC1.out]; rfl)
                have kX3 : w20.cell? ⟨w.heap.size, 3, none⟩ = some (.int .i64 e.c.t) := (HX.out).cell (j := 3) rfl
                have kN83 : w20.cell? ⟨q8, 3, none⟩ = some (.int .i64 e.c.t) := (HN8.out).cell (j := 3) (by rw [← HC1.out]; rfl)
                have kX4 : w20.cell? ⟨w.heap.size, 4, none⟩ = some (.int .i64 e.c.d) := (HX.out).cell (j := 4) rfl
                have kN84 : w20.cell? ⟨q8, 4, none⟩ = some (.int .i64 e.c.d) := (HN8.out).cell (j := 4) (by rw [← HC1.out]; rfl)
                have kX5 : w20.cell? ⟨w.heap.size, 5, none⟩ = some (.int .i64 e.c.p) := (HX.out).cell (j := 5) rfl
                have kN85 : w20.cell? ⟨q8, 5, none⟩ = some (.int .i64 e.c.p) := (HN8.out).cell (j := 5) (by rw [← HC1.out]; rfl)
                have kX6 : w20.cell? ⟨w.heap.size, 6, none⟩ = some (.int .i64 e.c.q) := (HX.out).cell (j := 6) rfl
                have kN86 : w20.cell? ⟨q8, 6, none⟩ = some (.int .i64 e.c.q) := (HN8.out).cell (j := 6) (by rw [← HC1.out]; rfl)
                go_wp2_with fail
                go_meet
                exact ⟨rfl, hid ⟨HX.out, HM.out, HN8.out, HW.out⟩⟩
              · skip
                have kX7 : wc.cell? ⟨w.heap.size, 7, none⟩ = some (.int .i64 e.pr) := (HX.out).cell (j := 7) rfl
                have kX8 : wc.cell? ⟨w.heap.size, 8, none⟩ = some (.int .i64 e.lo) := (HX.out).cell (j := 8) rfl
                have kX9 : wc.cell? ⟨w.heap.size, 9, none⟩ = some (.int .i64 e.hi) := (HX.out).cell (j := 9) rfl
                have kX15 : wc.cell? ⟨w.heap.size, 15, none⟩ = some (.bool e.fr) := (HX.out).cell (j := 15) rfl
                have kN87 : wc.cell? ⟨q8, 7, none⟩ = some (.int .i64 e1.pr) := (HN8.out).cell (j := 7) rfl
                have kN88 : wc.cell? ⟨q8, 8, none⟩ = some (.int .i64 e1.lo) := (HN8.out).cell (j := 8) rfl
                have kN89 : wc.cell? ⟨q8, 9, none⟩ = some (.int .i64 e1.hi) := (HN8.out).cell (j := 9) rfl
                have kN815 : wc.cell? ⟨q8, 15, none⟩ = some (.bool e1.fr) := (HN8.out).cell (j := 15) rfl
                rw [h0] at kX8
                rw [h1] at kX15
                rw [HFR.out h1] at kN815
                go_wp2_with (first
                  | ((with_reducible refine loadGC (x := ?lx68) (b := ?lb68) (T := 30) e1 ?lg68 ?lo68 ?lxx68 ?lc68 ?lh68); (case lo68 => rfl); (case lg68 => rfl); (case lxx68 => rfl); (case lc68 => exact HN8.out)))
                go_at_call 6
                refine (hR1 _ HW.out).mono ?_
                rintro x w20 ⟨rfl, hB⟩
                have GX : Hid (Ob w20 (w.heap.size) 30 e) := hid (heapB (HX.out) hB (Array.getElem?_eq_some_iff.1 (HX.out)).1)
                have GM : Hid (Ob w20 (w3.heap.size) 36 e) := hid (heapB (HM.out) hB (Array.getElem?_eq_some_iff.1 (HM.out)).1)
                have GN8 : Hid (Ob w20 (q8) 30 e1) := hid (heapB (HN8.out) hB (Array.getElem?_eq_some_iff.1 (HN8.out)).1)
                have GW := hid ((HW.out).trans (hB.mono (HW.out).size))
                clear kX7 kX8 kX9 kX15 kN87 kN88 kN89 kN815
                clear hB HX HM HN8 HW
                have HX := GX; clear GX
                have HM := GM; clear GM
                have HN8 := GN8; clear GN8
                have HW := GW; clear GW
                have kX0 : w20.cell? ⟨w.heap.size, 0, none⟩ = some (.int .i64 e.c.i) := (HX.out).cell (j := 0) rfl
                have kN80 : w20.cell? ⟨q8, 0, none⟩ = some (.int .i64 e.c.i) := (HN8.out).cell (j := 0) (by rw [← HC1.out]; rfl)
                have kX1 : w20.cell? ⟨w.heap.size, 1, none⟩ = some (.int .i64 e.c.k) := (HX.out).cell (j := 1) rfl
                have kN81 : w20.cell? ⟨q8, 1, none⟩ = some (.int .i64 e.c.k) := (HN8.out).cell (j := 1) (by rw [← HC1.out]; rfl)
                have kX2 : w20.cell? ⟨w.heap.size, 2, none⟩ = some (.int .i64 e.c.s) := (HX.out).cell (j := 2) rfl
                have kN82 : w20.cell? ⟨q8, 2, none⟩ = some (.int .i64 e.c.s) := (HN8.out).cell (j := 2) (by rw [← HC1.out]; rfl)
                have kX3 : w20.cell? ⟨w.heap.size, 3, none⟩ = some (.int .i64 e.c.t) := (HX.out).cell (j := 3) rfl
                have kN83 : w20.cell? ⟨q8, 3, none⟩ = some (.int .i64 e.c.t) := (HN8.out).cell (j := 3) (by rw [← HC1.out]; rfl)
                have kX4 : w20.cell? ⟨w.heap.size, 4, none⟩ = some (.int .i64 e.c.d) := (HX.out).cell (j := 4) rfl
                have kN84 : w20.cell? ⟨q8, 4, none⟩ = some (.int .i64 e.c.d) := (HN8.out).cell (j := 4) (by rw [← HC1.out]; rfl)
                have kX5 : w20.cell? ⟨w.heap.size, 5, none⟩ = some (.int .i64 e.c.p) := (HX.out).cell (j := 5) rfl
                have kN85 : w20.cell? ⟨q8, 5, none⟩ = some (.int .i64 e.c.p) := (HN8.out).cell (j := 5) (by rw [← HC1.out]; rfl)
                have kX6 : w20.cell? ⟨w.heap.size, 6, none⟩ = some (.int .i64 e.c.q) := (HX.out).cell (j := 6) rfl
                have kN86 : w20.cell? ⟨q8, 6, none⟩ = some (.int .i64 e.c.q) := (HN8.out).cell (j := 6) (by rw [← HC1.out]; rfl)
                go_wp2_with fail
                go_meet
                exact ⟨rfl, hid ⟨HX.out, HM.out, HN8.out, HW.out⟩⟩
            · rcases h1 : e.fr with _ | _
              · skip
                have kX7 : wc.cell? ⟨w.heap.size, 7, none⟩ = some (.int .i64 e.pr) := (HX.out).cell (j := 7) rfl
                have kX8 : wc.cell? ⟨w.heap.size, 8, none⟩ = some (.int .i64 e.lo) := (HX.out).cell (j := 8) rfl
                have kX9 : wc.cell? ⟨w.heap.size, 9, none⟩ = some (.int .i64 e.hi) := (HX.out).cell (j := 9) rfl
                have kX15 : wc.cell? ⟨w.heap.size, 15, none⟩ = some (.bool e.fr) := (HX.out).cell (j := 15) rfl
                have kN87 : wc.cell? ⟨q8, 7, none⟩ = some (.int .i64 e1.pr) := (HN8.out).cell (j := 7) rfl
                have kN88 : wc.cell? ⟨q8, 8, none⟩ = some (.int .i64 e1.lo) := (HN8.out).cell (j := 8) rfl
                have kN89 : wc.cell? ⟨q8, 9, none⟩ = some (.int .i64 e1.hi) := (HN8.out).cell (j := 9) rfl
                have kN815 : wc.cell? ⟨q8, 15, none⟩ = some (.bool e1.fr) := (HN8.out).cell (j := 15) rfl
                have hq0 : (e.lo == 0) = false := by simp [h0]
                have hq1 := (HLO.out h0).1
                have hq2 := (HLO.out h0).2
                have hq3 : (e1.lo == 0) = false := by simp [hq2]
                have hq4 : decide (e.lo < e1.lo) = false := decide_eq_false hq1
                rw [h1] at kX15
                go_wp2_with (first
                  | ((with_reducible refine loadGC (x := ?lx69) (b := ?lb69) (T := 30) e1 ?lg69 ?lo69 ?lxx69 ?lc69 ?lh69); (case lo69 => rfl); (case lg69 => rfl); (case lxx69 => rfl); (case lc69 => exact HN8.out)))
                go_at_call 6
                refine (hR1 _ HW.out).mono ?_
                rintro x w20 ⟨rfl, hB⟩
                have GX : Hid (Ob w20 (w.heap.size) 30 e) := hid (heapB (HX.out) hB (Array.getElem?_eq_some_iff.1 (HX.out)).1)
                have GM : Hid (Ob w20 (w3.heap.size) 36 e) := hid (heapB (HM.out) hB (Array.getElem?_eq_some_iff.1 (HM.out)).1)
                have GN8 : Hid (Ob w20 (q8) 30 e1) := hid (heapB (HN8.out) hB (Array.getElem?_eq_some_iff.1 (HN8.out)).1)
                have GW := hid ((HW.out).trans (hB.mono (HW.out).size))
                clear kX7 kX8 kX9 kX15 kN87 kN88 kN89 kN815
                clear hB HX HM HN8 HW
                have HX := GX; clear GX
                have HM := GM; clear GM
                have HN8 := GN8; clear GN8
                have HW := GW; clear GW
                have kX0 : w20.cell? ⟨w.heap.size, 0, none⟩ = some (.int .i64 e.c.i) := (HX.out).cell (j := 0) rfl
                have kN80 : w20.cell? ⟨q8, 0, none⟩ = some (.int .i64 e.c.i) := (HN8.out).cell (j := 0) (by rw [← HC1.out]; rfl)
                have kX1 : w20.cell? ⟨w.heap.size, 1, none⟩ = some (.int .i64 e.c.k) := (HX.out).cell (j := 1) rfl
                have kN81 : w20.cell? ⟨q8, 1, none⟩ = some (.int .i64 e.c.k) := (HN8.out).cell (j := 1) (by rw [← HC1.out]; rfl)
                have kX2 : w20.cell? ⟨w.heap.size, 2, none⟩ = some (.int .i64 e.c.s) := (HX.out).cell (j := 2) rfl
                have kN82 : w20.cell? ⟨q8, 2, none⟩ = some (.int .i64 e.c.s) := (HN8.out).cell (j := 2) (by rw [← HC1.out]; rfl)
                have kX3 : w20.cell? ⟨w.heap.size, 3, none⟩ = some (.int .i64 e.c.t) := (HX.out).cell (j := 3) rfl
                have kN83 : w20.cell? ⟨q8, 3, none⟩ = some (.int .i64 e.c.t) := (HN8.out).cell (j := 3) (by rw [← HC1.out]; rfl)
                have kX4 : w20.cell? ⟨w.heap.size, 4, none⟩ = some (.int .i64 e.c.d) := (HX.out).cell (j := 4) rfl
                have kN84 : w20.cell? ⟨q8, 4, none⟩ = some (.int .i64 e.c.d) := (HN8.out).cell (j := 4) (by rw [← HC1.out]; rfl)
                have kX5 : w20.cell? ⟨w.heap.size, 5, none⟩ = some (.int .i64 e.c.p) := (HX.out).cell (j := 5) rfl
                have kN85 : w20.cell? ⟨q8, 5, none⟩ = some (.int .i64 e.c.p) := (HN8.out).cell (j := 5) (by rw [← HC1.out]; rfl)
                have kX6 : w20.cell? ⟨w.heap.size, 6, none⟩ = some (.int .i64 e.c.q) := (HX.out).cell (j := 6) rfl
                have kN86 : w20.cell? ⟨q8, 6, none⟩ = some (.int .i64 e.c.q) := (HN8.out).cell (j := 6) (by rw [← HC1.out]; rfl)
                go_wp2_with fail
                go_meet
                exact ⟨rfl, hid ⟨HX.out, HM.out, HN8.out, HW.out⟩⟩
              · skip
                have kX7 : wc.cell? ⟨w.heap.size, 7, none⟩ = some (.int .i64 e.pr) := (HX.out).cell (j := 7) rfl
                have kX8 : wc.cell? ⟨w.heap.size, 8, none⟩ = some (.int .i64 e.lo) := (HX.out).cell (j := 8) rfl
                have kX9 : wc.cell? ⟨w.heap.size, 9, none⟩ = some (.int .i64 e.hi) := (HX.out).cell (j := 9) rfl
                have kX15 : wc.cell? ⟨w.heap.size, 15, none⟩ = some (.bool e.fr) := (HX.out).cell (j := 15) rfl
                have kN87 : wc.cell? ⟨q8, 7, none⟩ = some (.int .i64 e1.pr) := (HN8.out).cell (j := 7) rfl
                have kN88 : wc.cell? ⟨q8, 8, none⟩ = some (.int .i64 e1.lo) := (HN8.out).cell (j := 8) rfl
                have kN89 : wc.cell? ⟨q8, 9, none⟩ = some (.int .i64 e1.hi) := (HN8.out).cell (j := 9) rfl
                have kN815 : wc.cell? ⟨q8, 15, none⟩ = some (.bool e1.fr) := (HN8.out).cell (j := 15) rfl
                have hq0 : (e.lo == 0) = false := by simp [h0]
                have hq1 := (HLO.out h0).1
                have hq2 := (HLO.out h0).2
                have hq3 : (e1.lo == 0) = false := by simp [hq2]
                have hq4 : decide (e.lo < e1.lo) = false := decide_eq_false hq1
                rw [h1] at kX15
                rw [HFR.out h1] at kN815
                go_wp2_with (first
                  | ((with_reducible refine loadGC (x := ?lx70) (b := ?lb70) (T := 30) e1 ?lg70 ?lo70 ?lxx70 ?lc70 ?lh70); (case lo70 => rfl); (case lg70 => rfl); (case lxx70 => rfl); (case lc70 => exact HN8.out)))
                go_at_call 6
                refine (hR1 _ HW.out).mono ?_
                rintro x w20 ⟨rfl, hB⟩
                have GX : Hid (Ob w20 (w.heap.size) 30 e) := hid (heapB (HX.out) hB (Array.getElem?_eq_some_iff.1 (HX.out)).1)
                have GM : Hid (Ob w20 (w3.heap.size) 36 e) := hid (heapB (HM.out) hB (Array.getElem?_eq_some_iff.1 (HM.out)).1)
                have GN8 : Hid (Ob w20 (q8) 30 e1) := hid (heapB (HN8.out) hB (Array.getElem?_eq_some_iff.1 (HN8.out)).1)
                have GW := hid ((HW.out).trans (hB.mono (HW.out).size))
                clear kX7 kX8 kX9 kX15 kN87 kN88 kN89 kN815
                clear hB HX HM HN8 HW
                have HX := GX; clear GX
                have HM := GM; clear GM
                have HN8 := GN8; clear GN8
                have HW := GW; clear GW
                have kX0 : w20.cell? ⟨w.heap.size, 0, none⟩ = some (.int .i64 e.c.i) := (HX.out).cell (j := 0) rfl
                have kN80 : w20.cell? ⟨q8, 0, none⟩ = some (.int .i64 e.c.i) := (HN8.out).cell (j := 0) (by rw [← HC1.out]; rfl)
                have kX1 : w20.cell? ⟨w.heap.size, 1, none⟩ = some (.int .i64 e.c.k) := (HX.out).cell (j := 1) rfl
                have kN81 : w20.cell? ⟨q8, 1, none⟩ = some (.int .i64 e.c.k) := (HN8.out).cell (j := 1) (by rw [← HC1.out]; rfl)
                have kX2 : w20.cell? ⟨w.heap.size, 2, none⟩ = some (.int .i64 e.c.s) := (HX.out).cell (j := 2) rfl
                have kN82 : w20.cell? ⟨q8, 2, none⟩ = some (.int .i64 e.c.s) := (HN8.out).cell (j := 2) (by rw [← HC1.out]; rfl)
                have kX3 : w20.cell? ⟨w.heap.size, 3, none⟩ = some (.int .i64 e.c.t) := (HX.out).cell (j := 3) rfl
                have kN83 : w20.cell? ⟨q8, 3, none⟩ = some (.int .i64 e.c.t) := (HN8.out).cell (j := 3) (by rw [← HC1.out]; rfl)
                have kX4 : w20.cell? ⟨w.heap.size, 4, none⟩ = some (.int .i64 e.c.d) := (HX.out).cell (j := 4) rfl
                have kN84 : w20.cell? ⟨q8, 4, none⟩ = some (.int .i64 e.c.d) := (HN8.out).cell (j := 4) (by rw [← HC1.out]; rfl)
                have kX5 : w20.cell? ⟨w.heap.size, 5, none⟩ = some (.int .i64 e.c.p) := (HX.out).cell (j := 5) rfl
                have kN85 : w20.cell? ⟨q8, 5, none⟩ = some (.int .i64 e.c.p) := (HN8.out).cell (j := 5) (by rw [← HC1.out]; rfl)
                have kX6 : w20.cell? ⟨w.heap.size, 6, none⟩ = some (.int .i64 e.c.q) := (HX.out).cell (j := 6) rfl
                have kN86 : w20.cell? ⟨q8, 6, none⟩ = some (.int .i64 e.c.q) := (HN8.out).cell (j := 6) (by rw [← HC1.out]; rfl)
                go_wp2_with fail
                go_meet
                exact ⟨rfl, hid ⟨HX.out, HM.out, HN8.out, HW.out⟩⟩
          case rest =>
            obtain ⟨rfl, HH⟩ := hcut
            clear HX HM HN8 HW
            have HX := hid HH.out.1
            have HM := hid HH.out.2.1
            have HN8 := hid HH.out.2.2.1
            have HW := hid HH.out.2.2.2
            clear HH hpr hhi hlo hfr hR1
            have hS1 := fun (W : World) (hB : Below w.heap.size w W) => rSameE (e := { e with ft := e1.ft, fp := e1.fp }) (e' := e) (HNx.out.2.1.on hB) (HS.out.sf.on hB) (HS.out.sa.on hB) (HS.out.sa.on hB) (HS.out.sv.on hB) (HS.out.sv.on hB) (Nat.le_trans HNx.out.2.2.2.2.1 (by decide)) (Nat.le_trans HS.out.lf (by decide)) (Nat.le_trans HS.out.la (by decide)) (Nat.le_trans HS.out.la (by decide)) (Nat.le_trans HS.out.lv (by decide)) (Nat.le_trans HS.out.lv (by decide))
            have hS2 := fun (W : World) (hB : Below w.heap.size w W) => rSameE (e := { e with vt := e1.vt, vp := e1.vp }) (e' := e) (HS.out.sf.on hB) (HS.out.sf.on hB) (HS.out.sa.on hB) (HS.out.sa.on hB) (HNx.out.2.2.2.1.on hB) (HS.out.sv.on hB) (Nat.le_trans HS.out.lf (by decide)) (Nat.le_trans HS.out.lf (by decide)) (Nat.le_trans HS.out.la (by decide)) (Nat.le_trans HS.out.la (by decide)) (Nat.le_trans HNx.out.2.2.2.2.2.2 (by decide)) (Nat.le_trans HS.out.lv (by decide))
            have HS1 := hid hS1
            have HS2 := hid hS2
            clear hS1 hS2 hc1
            by_cases h0 : e.ft = 0
            · rcases h1 : e.dn with _ | _
              · skip
                have hq0 : (e.ft == 0) = true := by simp [h0]
                clear h0
                clear HS1 HS2
                have H1 := hid h1
                clear h1
                go_wp2_with (first
                  | ((with_reducible refine loadC (x := ?lx71) (b := ?lb71) (T := 30) e ?lg71 ?lo71 ?lxx71 ?lc71 ?lh71); (case lg71 => rfl); (case lo71 => rfl); (case lxx71 => rfl); (case lc71 => exact HX.out))
                  | fail)
                go_at_call 8
                refine (hOf e _).mono ?_
                rintro x w21 ⟨rfl, hB⟩
                have GX : Hid (Ob w21 (w.heap.size) 30 e) := hid (heapB (HX.out) hB (Array.getElem?_eq_some_iff.1 (HX.out)).1)
                have GM : Hid (Ob w21 (w3.heap.size) 36 e) := hid (heapB (HM.out) hB (Array.getElem?_eq_some_iff.1 (HM.out)).1)
                have GN8 : Hid (Ob w21 (q8) 30 e1) := hid (heapB (HN8.out) hB (Array.getElem?_eq_some_iff.1 (HN8.out)).1)
                have GW := hid ((HW.out).trans (hB.mono (HW.out).size))
                clear hB HX HM HN8 HW
                have HX := GX; clear GX
                have HM := GM; clear GM
                have HN8 := GN8; clear GN8
                have HW := GW; clear GW
                have ltKX : w.heap.size < w21.heap.size := (Array.getElem?_eq_some_iff.1 (HX.out)).1
                have ltKM : w3.heap.size < w21.heap.size := (Array.getElem?_eq_some_iff.1 (HM.out)).1
                have ltKN8 : q8 < w21.heap.size := (Array.getElem?_eq_some_iff.1 (HN8.out)).1
                have ltwK : w.heap.size ≤ w21.heap.size := (HW.out).size
                have RK : Room (w21.alloc zeroE) (w21.heap.size) 36 := ⟨_, newAt (x := zeroE) rfl, rfl⟩
                have neX : ¬ w.heap.size = w21.heap.size := Nat.ne_of_lt ltKX
                have enX : ¬ w21.heap.size = w.heap.size := Nat.ne_of_gt ltKX
                have neN8 : ¬ q8 = w21.heap.size := Nat.ne_of_lt ltKN8
                have enN8 : ¬ w21.heap.size = q8 := Nat.ne_of_gt ltKN8
                go_wp2_with (first
                  | ((with_reducible refine uponStore (e := e) (RK) ?_); intro w22 hO hU; have GK := hid hO; have GX : Hid (Ob w22 (w.heap.size) 30 e) := hid (hU.ob ((obAlloc (x := zeroE) HX.out)) (by omega)); have GM : Hid (Ob w22 (w3.heap.size) 36 e) := hid (hU.ob ((obAlloc (x := zeroE) HM.out)) (by omega)); have GN8 : Hid (Ob w22 (q8) 30 e1) := hid (hU.ob ((obAlloc (x := zeroE) HN8.out)) (by omega)); have GW := hid ((((HW.out).alloc (HW.out).size zeroE)).trans (hU.below _ (by first | exact Nat.le_refl _ | omega))); clear hO hU; clear HX HM HN8 HW; have HX := GX; clear GX; have HM := GM; clear GM; have HN8 := GN8; clear GN8; have HK := GK; clear GK; have HW := GW; clear GW; have kX10 : w22.cell? ⟨w.heap.size, 10, none⟩ = some (.int .i64 e.ft) := (HX.out).cell (j := 10) rfl; have kX11 : w22.cell? ⟨w.heap.size, 11, none⟩ = some (.slice e.fp.a e.fp.n e.fp.c) := (HX.out).cell (j := 11) rfl; have kX16 : w22.cell? ⟨w.heap.size, 16, none⟩ = some (.bool e.dn) := (HX.out).cell (j := 16) rfl; have kN810 : w22.cell? ⟨q8, 10, none⟩ = some (.int .i64 e1.ft) := (HN8.out).cell (j := 10) rfl; have kN811 : w22.cell? ⟨q8, 11, none⟩ = some (.slice e1.fp.a e1.fp.n e1.fp.c) := (HN8.out).cell (j := 11) rfl; have kN816 : w22.cell? ⟨q8, 16, none⟩ = some (.bool e1.dn) := (HN8.out).cell (j := 16) rfl; have kN817 : w22.cell? ⟨q8, 17, none⟩ = some (.int .i64 e1.vt) := (HN8.out).cell (j := 17) rfl; have kN818 : w22.cell? ⟨q8, 18, none⟩ = some (.slice e1.vp.a e1.vp.n e1.vp.c) := (HN8.out).cell (j := 18) rfl; have kK10 : w22.cell? ⟨w21.heap.size, 10, none⟩ = some (.int .i64 e.ft) := (HK.out).cell (j := 10) rfl; have zK10 : w22.frozen? ⟨w21.heap.size, 10, none⟩ = false := (HK.out).free 10; have kK11 : w22.cell? ⟨w21.heap.size, 11, none⟩ = some (.slice e.fp.a e.fp.n e.fp.c) := (HK.out).cell (j := 11) rfl; have zK11 : w22.frozen? ⟨w21.heap.size, 11, none⟩ = false := (HK.out).free 11; have kK17 : w22.cell? ⟨w21.heap.size, 17, none⟩ = some (.int .i64 e.vt) := (HK.out).cell (j := 17) rfl; have zK17 : w22.frozen? ⟨w21.heap.size, 17, none⟩ = false := (HK.out).free 17; have kK18 : w22.cell? ⟨w21.heap.size, 18, none⟩ = some (.slice e.vp.a e.vp.n e.vp.c) := (HK.out).cell (j := 18) rfl; have zK18 : w22.frozen? ⟨w21.heap.size, 18, none⟩ = false := (HK.out).free 18; rw [H1.out] at kX16)
                  | ((with_reducible refine loadC (x := ?lx72) (b := ?lb72) (T := 30) e1 ?lg72 ?lo72 ?lxx72 ?lc72 ?lh72); (case lg72 => rfl); (case lo72 => rfl); (case lxx72 => rfl); (case lc72 => exact (setOther (q := w21.heap.size) (j := 18) (v := .slice e1.vp.a e1.vp.n e1.vp.c) ((setOther (q := w21.heap.size) (j := 17) (v := .int .i64 e1.vt) ((setOther (q := w21.heap.size) (j := 11) (v := .slice e.fp.a e.fp.n e.fp.c) ((setOther (q := w21.heap.size) (j := 10) (v := .int .i64 e.ft) ((setOther (q := w21.heap.size) (j := 11) (v := .slice e1.fp.a e1.fp.n e1.fp.c) ((setOther (q := w21.heap.size) (j := 10) (v := .int .i64 e1.ft) (HN8.out) (by omega))) (by omega))) (by omega))) (by omega))) (by omega))) (by omega))))
                  | ((with_reducible refine storeC (x := ?sx73) (y := ?sy73) (b := ?sb73) (T := 30) e1 ?sg73 ?so73 ?sxx73 ?syy73 ?sc73 ?sh73); (case sg73 => rfl); (case so73 => rfl); (case sxx73 => rfl); (case syy73 => rfl); (case sc73 => exact Ob.room (setOther (q := w21.heap.size) (j := 18) (v := .slice e1.vp.a e1.vp.n e1.vp.c) ((setOther (q := w21.heap.size) (j := 17) (v := .int .i64 e1.vt) ((setOther (q := w21.heap.size) (j := 11) (v := .slice e.fp.a e.fp.n e.fp.c) ((setOther (q := w21.heap.size) (j := 10) (v := .int .i64 e.ft) ((setOther (q := w21.heap.size) (j := 11) (v := .slice e1.fp.a e1.fp.n e1.fp.c) ((setOther (q := w21.heap.size) (j := 10) (v := .int .i64 e1.ft) (HX.out) (by omega))) (by omega))) (by omega))) (by omega))) (by omega))) (by omega))); intro w25 hO hU; have GX := hid hO; have GM : Hid (Ob w25 (w3.heap.size) 36 e) := hid (hU.ob ((setOther (q := w21.heap.size) (j := 18) (v := .slice e1.vp.a e1.vp.n e1.vp.c) ((setOther (q := w21.heap.size) (j := 17) (v := .int .i64 e1.vt) ((setOther (q := w21.heap.size) (j := 11) (v := .slice e.fp.a e.fp.n e.fp.c) ((setOther (q := w21.heap.size) (j := 10) (v := .int .i64 e.ft) ((setOther (q := w21.heap.size) (j := 11) (v := .slice e1.fp.a e1.fp.n e1.fp.c) ((setOther (q := w21.heap.size) (j := 10) (v := .int .i64 e1.ft) (HM.out) (by omega))) (by omega))) (by omega))) (by omega))) (by omega))) (by omega))) (by omega)); have GN8 : Hid (Ob w25 (q8) 30 e1) := hid (hU.ob ((setOther (q := w21.heap.size) (j := 18) (v := .slice e1.vp.a e1.vp.n e1.vp.c) ((setOther (q := w21.heap.size) (j := 17) (v := .int .i64 e1.vt) ((setOther (q := w21.heap.size) (j := 11) (v := .slice e.fp.a e.fp.n e.fp.c) ((setOther (q := w21.heap.size) (j := 10) (v := .int .i64 e.ft) ((setOther (q := w21.heap.size) (j := 11) (v := .slice e1.fp.a e1.fp.n e1.fp.c) ((setOther (q := w21.heap.size) (j := 10) (v := .int .i64 e1.ft) (HN8.out) (by omega))) (by omega))) (by omega))) (by omega))) (by omega))) (by omega))) (by omega)); have GK : Hid (Ob w25 (w21.heap.size) 36 ({ e with vt := e1.vt, vp := e1.vp } : Ev)) := hid (hU.ob (((((((((((((HK.out).set (j := 10) (v := .int .i64 e1.ft) (e' := ({ e with ft := e1.ft } : Ev)) rfl)).set (j := 11) (v := .slice e1.fp.a e1.fp.n e1.fp.c) (e' := ({ e with ft := e1.ft, fp := e1.fp } : Ev)) rfl)).set (j := 10) (v := .int .i64 e.ft) (e' := ({ e with fp := e1.fp } : Ev)) rfl)).set (j := 11) (v := .slice e.fp.a e.fp.n e.fp.c) (e' := e) rfl)).set (j := 17) (v := .int .i64 e1.vt) (e' := ({ e with vt := e1.vt } : Ev)) rfl)).set (j := 18) (v := .slice e1.vp.a e1.vp.n e1.vp.c) (e' := ({ e with vt := e1.vt, vp := e1.vp } : Ev)) rfl)) (by omega)); have GW := hid ((((((((((((((HW.out).setCell (p := ⟨w21.heap.size, 10, none⟩) (by first | exact Nat.le_refl _ | (show w.heap.size ≤ w21.heap.size; omega)) (.int .i64 e1.ft))).setCell (p := ⟨w21.heap.size, 11, none⟩) (by first | exact Nat.le_refl _ | (show w.heap.size ≤ w21.heap.size; omega)) (.slice e1.fp.a e1.fp.n e1.fp.c))).setCell (p := ⟨w21.heap.size, 10, none⟩) (by first | exact Nat.le_refl _ | (show w.heap.size ≤ w21.heap.size; omega)) (.int .i64 e.ft))).setCell (p := ⟨w21.heap.size, 11, none⟩) (by first | exact Nat.le_refl _ | (show w.heap.size ≤ w21.heap.size; omega)) (.slice e.fp.a e.fp.n e.fp.c))).setCell (p := ⟨w21.heap.size, 17, none⟩) (by first | exact Nat.le_refl _ | (show w.heap.size ≤ w21.heap.size; omega)) (.int .i64 e1.vt))).setCell (p := ⟨w21.heap.size, 18, none⟩) (by first | exact Nat.le_refl _ | (show w.heap.size ≤ w21.heap.size; omega)) (.slice e1.vp.a e1.vp.n e1.vp.c))).trans (hU.below _ (by first | exact Nat.le_refl _ | omega))); clear hO hU; clear kX10 kX11 kX16 kN810 kN811 kN816 kN817 kN818 kK10 zK10 kK11 zK11 kK17 zK17 kK18 zK18; clear HX HM HN8 HK HW; have HX := GX; clear GX; have HM := GM; clear GM; have HN8 := GN8; clear GN8; have HK := GK; clear GK; have HW := GW; clear GW)
                  | fail)
                go_roundw
                case rel => exact ⟨j + 1, e1, f1, a1, v1, by omega, by go_num, ⟨HX.out, HW.out, HNx.out.2.1, HNx.out.2.2.1, HNx.out.2.2.2.1, HNx.out.2.2.2.2.1, HNx.out.2.2.2.2.2.1, HNx.out.2.2.2.2.2.2, HNx.out.1.ok⟩⟩
                case measure => simp [RowKit.intOf]; omega
              · skip
                have HDN := hid ((HNx.out.1.dv.resolve_left (by simp [h1])).1)
                have hq0 : (e.ft == 0) = true := by simp [h0]
                clear h0
                have hS2 := HS2.out
                rw [show sameE { e with vt := e1.vt, vp := e1.vp } f a v1 e f a v = true from same_v (HNx.out.1.dv.resolve_left (by simp [h1])).2] at hS2
                clear HS1 HS2
                have H1 := hid h1
                clear h1
                go_wp2_with (first
                  | ((with_reducible refine loadC (x := ?lx74) (b := ?lb74) (T := 30) e ?lg74 ?lo74 ?lxx74 ?lc74 ?lh74); (case lg74 => rfl); (case lo74 => rfl); (case lxx74 => rfl); (case lc74 => exact HX.out))
                  | fail)
                go_at_call 8
                refine (hOf e _).mono ?_
                rintro x w21 ⟨rfl, hB⟩
                have GX : Hid (Ob w21 (w.heap.size) 30 e) := hid (heapB (HX.out) hB (Array.getElem?_eq_some_iff.1 (HX.out)).1)
                have GM : Hid (Ob w21 (w3.heap.size) 36 e) := hid (heapB (HM.out) hB (Array.getElem?_eq_some_iff.1 (HM.out)).1)
                have GN8 : Hid (Ob w21 (q8) 30 e1) := hid (heapB (HN8.out) hB (Array.getElem?_eq_some_iff.1 (HN8.out)).1)
                have GW := hid ((HW.out).trans (hB.mono (HW.out).size))
                clear hB HX HM HN8 HW
                have HX := GX; clear GX
                have HM := GM; clear GM
                have HN8 := GN8; clear GN8
                have HW := GW; clear GW
                have ltKX : w.heap.size < w21.heap.size := (Array.getElem?_eq_some_iff.1 (HX.out)).1
                have ltKM : w3.heap.size < w21.heap.size := (Array.getElem?_eq_some_iff.1 (HM.out)).1
                have ltKN8 : q8 < w21.heap.size := (Array.getElem?_eq_some_iff.1 (HN8.out)).1
                have ltwK : w.heap.size ≤ w21.heap.size := (HW.out).size
                have RK : Room (w21.alloc zeroE) (w21.heap.size) 36 := ⟨_, newAt (x := zeroE) rfl, rfl⟩
                have neX : ¬ w.heap.size = w21.heap.size := Nat.ne_of_lt ltKX
                have enX : ¬ w21.heap.size = w.heap.size := Nat.ne_of_gt ltKX
                have neN8 : ¬ q8 = w21.heap.size := Nat.ne_of_lt ltKN8
                have enN8 : ¬ w21.heap.size = q8 := Nat.ne_of_gt ltKN8
                go_wp2_with (first
                  | ((with_reducible refine uponStore (e := e) (RK) ?_); intro w22 hO hU; have GK := hid hO; have GX : Hid (Ob w22 (w.heap.size) 30 e) := hid (hU.ob ((obAlloc (x := zeroE) HX.out)) (by omega)); have GM : Hid (Ob w22 (w3.heap.size) 36 e) := hid (hU.ob ((obAlloc (x := zeroE) HM.out)) (by omega)); have GN8 : Hid (Ob w22 (q8) 30 e1) := hid (hU.ob ((obAlloc (x := zeroE) HN8.out)) (by omega)); have GW := hid ((((HW.out).alloc (HW.out).size zeroE)).trans (hU.below _ (by first | exact Nat.le_refl _ | omega))); clear hO hU; clear HX HM HN8 HW; have HX := GX; clear GX; have HM := GM; clear GM; have HN8 := GN8; clear GN8; have HK := GK; clear GK; have HW := GW; clear GW; have kX10 : w22.cell? ⟨w.heap.size, 10, none⟩ = some (.int .i64 e.ft) := (HX.out).cell (j := 10) rfl; have kX11 : w22.cell? ⟨w.heap.size, 11, none⟩ = some (.slice e.fp.a e.fp.n e.fp.c) := (HX.out).cell (j := 11) rfl; have kX16 : w22.cell? ⟨w.heap.size, 16, none⟩ = some (.bool e.dn) := (HX.out).cell (j := 16) rfl; have kN810 : w22.cell? ⟨q8, 10, none⟩ = some (.int .i64 e1.ft) := (HN8.out).cell (j := 10) rfl; have kN811 : w22.cell? ⟨q8, 11, none⟩ = some (.slice e1.fp.a e1.fp.n e1.fp.c) := (HN8.out).cell (j := 11) rfl; have kN816 : w22.cell? ⟨q8, 16, none⟩ = some (.bool e1.dn) := (HN8.out).cell (j := 16) rfl; have kN817 : w22.cell? ⟨q8, 17, none⟩ = some (.int .i64 e1.vt) := (HN8.out).cell (j := 17) rfl; have kN818 : w22.cell? ⟨q8, 18, none⟩ = some (.slice e1.vp.a e1.vp.n e1.vp.c) := (HN8.out).cell (j := 18) rfl; have kK10 : w22.cell? ⟨w21.heap.size, 10, none⟩ = some (.int .i64 e.ft) := (HK.out).cell (j := 10) rfl; have zK10 : w22.frozen? ⟨w21.heap.size, 10, none⟩ = false := (HK.out).free 10; have kK11 : w22.cell? ⟨w21.heap.size, 11, none⟩ = some (.slice e.fp.a e.fp.n e.fp.c) := (HK.out).cell (j := 11) rfl; have zK11 : w22.frozen? ⟨w21.heap.size, 11, none⟩ = false := (HK.out).free 11; have kK17 : w22.cell? ⟨w21.heap.size, 17, none⟩ = some (.int .i64 e.vt) := (HK.out).cell (j := 17) rfl; have zK17 : w22.frozen? ⟨w21.heap.size, 17, none⟩ = false := (HK.out).free 17; have kK18 : w22.cell? ⟨w21.heap.size, 18, none⟩ = some (.slice e.vp.a e.vp.n e.vp.c) := (HK.out).cell (j := 18) rfl; have zK18 : w22.frozen? ⟨w21.heap.size, 18, none⟩ = false := (HK.out).free 18; rw [H1.out] at kX16; rw [HDN.out] at kN816)
                  | ((with_reducible refine loadGR (x := ?lx75) (b := ?lb75) (T := 36) ({ e with vt := e1.vt, vp := e1.vp } : Ev) ?lg75 ?lo75 ?lxx75 ?lc75 ?lh75); (case lo75 => rfl); (case lg75 => rfl); (case lxx75 => rfl); (case lc75 => exact ((((((((((((HK.out).set (j := 10) (v := .int .i64 e1.ft) (e' := ({ e with ft := e1.ft } : Ev)) rfl)).set (j := 11) (v := .slice e1.fp.a e1.fp.n e1.fp.c) (e' := ({ e with ft := e1.ft, fp := e1.fp } : Ev)) rfl)).set (j := 10) (v := .int .i64 e.ft) (e' := ({ e with fp := e1.fp } : Ev)) rfl)).set (j := 11) (v := .slice e.fp.a e.fp.n e.fp.c) (e' := e) rfl)).set (j := 17) (v := .int .i64 e1.vt) (e' := ({ e with vt := e1.vt } : Ev)) rfl)).set (j := 18) (v := .slice e1.vp.a e1.vp.n e1.vp.c) (e' := ({ e with vt := e1.vt, vp := e1.vp } : Ev)) rfl)))
                  | ((with_reducible refine loadGR (x := ?lx76) (b := ?lb76) (T := 36) e ?lg76 ?lo76 ?lxx76 ?lc76 ?lh76); (case lo76 => rfl); (case lg76 => rfl); (case lxx76 => rfl); (case lc76 => exact (setOther (q := w21.heap.size) (j := 18) (v := .slice e1.vp.a e1.vp.n e1.vp.c) ((setOther (q := w21.heap.size) (j := 17) (v := .int .i64 e1.vt) ((setOther (q := w21.heap.size) (j := 11) (v := .slice e.fp.a e.fp.n e.fp.c) ((setOther (q := w21.heap.size) (j := 10) (v := .int .i64 e.ft) ((setOther (q := w21.heap.size) (j := 11) (v := .slice e1.fp.a e1.fp.n e1.fp.c) ((setOther (q := w21.heap.size) (j := 10) (v := .int .i64 e1.ft) (HM.out) (by omega))) (by omega))) (by omega))) (by omega))) (by omega))) (by omega))))
                  | fail)
                go_at_call 10
                refine (hS2 _ (((((((((((((HW.out).setCell (p := ⟨w21.heap.size, 10, none⟩) (by first | exact Nat.le_refl _ | (show w.heap.size ≤ w21.heap.size; omega)) (.int .i64 e1.ft))).setCell (p := ⟨w21.heap.size, 11, none⟩) (by first | exact Nat.le_refl _ | (show w.heap.size ≤ w21.heap.size; omega)) (.slice e1.fp.a e1.fp.n e1.fp.c))).setCell (p := ⟨w21.heap.size, 10, none⟩) (by first | exact Nat.le_refl _ | (show w.heap.size ≤ w21.heap.size; omega)) (.int .i64 e.ft))).setCell (p := ⟨w21.heap.size, 11, none⟩) (by first | exact Nat.le_refl _ | (show w.heap.size ≤ w21.heap.size; omega)) (.slice e.fp.a e.fp.n e.fp.c))).setCell (p := ⟨w21.heap.size, 17, none⟩) (by first | exact Nat.le_refl _ | (show w.heap.size ≤ w21.heap.size; omega)) (.int .i64 e1.vt))).setCell (p := ⟨w21.heap.size, 18, none⟩) (by first | exact Nat.le_refl _ | (show w.heap.size ≤ w21.heap.size; omega)) (.slice e1.vp.a e1.vp.n e1.vp.c)))).mono ?_
                rintro x w24 ⟨rfl, hB⟩
                have GX : Hid (Ob w24 (w.heap.size) 30 e) := hid (heapB ((setOther (q := w21.heap.size) (j := 18) (v := .slice e1.vp.a e1.vp.n e1.vp.c) ((setOther (q := w21.heap.size) (j := 17) (v := .int .i64 e1.vt) ((setOther (q := w21.heap.size) (j := 11) (v := .slice e.fp.a e.fp.n e.fp.c) ((setOther (q := w21.heap.size) (j := 10) (v := .int .i64 e.ft) ((setOther (q := w21.heap.size) (j := 11) (v := .slice e1.fp.a e1.fp.n e1.fp.c) ((setOther (q := w21.heap.size) (j := 10) (v := .int .i64 e1.ft) (HX.out) (by omega))) (by omega))) (by omega))) (by omega))) (by omega))) (by omega))) hB (Array.getElem?_eq_some_iff.1 ((setOther (q := w21.heap.size) (j := 18) (v := .slice e1.vp.a e1.vp.n e1.vp.c) ((setOther (q := w21.heap.size) (j := 17) (v := .int .i64 e1.vt) ((setOther (q := w21.heap.size) (j := 11) (v := .slice e.fp.a e.fp.n e.fp.c) ((setOther (q := w21.heap.size) (j := 10) (v := .int .i64 e.ft) ((setOther (q := w21.heap.size) (j := 11) (v := .slice e1.fp.a e1.fp.n e1.fp.c) ((setOther (q := w21.heap.size) (j := 10) (v := .int .i64 e1.ft) (HX.out) (by omega))) (by omega))) (by omega))) (by omega))) (by omega))) (by omega)))).1)
                have GM : Hid (Ob w24 (w3.heap.size) 36 e) := hid (heapB ((setOther (q := w21.heap.size) (j := 18) (v := .slice e1.vp.a e1.vp.n e1.vp.c) ((setOther (q := w21.heap.size) (j := 17) (v := .int .i64 e1.vt) ((setOther (q := w21.heap.size) (j := 11) (v := .slice e.fp.a e.fp.n e.fp.c) ((setOther (q := w21.heap.size) (j := 10) (v := .int .i64 e.ft) ((setOther (q := w21.heap.size) (j := 11) (v := .slice e1.fp.a e1.fp.n e1.fp.c) ((setOther (q := w21.heap.size) (j := 10) (v := .int .i64 e1.ft) (HM.out) (by omega))) (by omega))) (by omega))) (by omega))) (by omega))) (by omega))) hB (Array.getElem?_eq_some_iff.1 ((setOther (q := w21.heap.size) (j := 18) (v := .slice e1.vp.a e1.vp.n e1.vp.c) ((setOther (q := w21.heap.size) (j := 17) (v := .int .i64 e1.vt) ((setOther (q := w21.heap.size) (j := 11) (v := .slice e.fp.a e.fp.n e.fp.c) ((setOther (q := w21.heap.size) (j := 10) (v := .int .i64 e.ft) ((setOther (q := w21.heap.size) (j := 11) (v := .slice e1.fp.a e1.fp.n e1.fp.c) ((setOther (q := w21.heap.size) (j := 10) (v := .int .i64 e1.ft) (HM.out) (by omega))) (by omega))) (by omega))) (by omega))) (by omega))) (by omega)))).1)
                have GN8 : Hid (Ob w24 (q8) 30 e1) := hid (heapB ((setOther (q := w21.heap.size) (j := 18) (v := .slice e1.vp.a e1.vp.n e1.vp.c) ((setOther (q := w21.heap.size) (j := 17) (v := .int .i64 e1.vt) ((setOther (q := w21.heap.size) (j := 11) (v := .slice e.fp.a e.fp.n e.fp.c) ((setOther (q := w21.heap.size) (j := 10) (v := .int .i64 e.ft) ((setOther (q := w21.heap.size) (j := 11) (v := .slice e1.fp.a e1.fp.n e1.fp.c) ((setOther (q := w21.heap.size) (j := 10) (v := .int .i64 e1.ft) (HN8.out) (by omega))) (by omega))) (by omega))) (by omega))) (by omega))) (by omega))) hB (Array.getElem?_eq_some_iff.1 ((setOther (q := w21.heap.size) (j := 18) (v := .slice e1.vp.a e1.vp.n e1.vp.c) ((setOther (q := w21.heap.size) (j := 17) (v := .int .i64 e1.vt) ((setOther (q := w21.heap.size) (j := 11) (v := .slice e.fp.a e.fp.n e.fp.c) ((setOther (q := w21.heap.size) (j := 10) (v := .int .i64 e.ft) ((setOther (q := w21.heap.size) (j := 11) (v := .slice e1.fp.a e1.fp.n e1.fp.c) ((setOther (q := w21.heap.size) (j := 10) (v := .int .i64 e1.ft) (HN8.out) (by omega))) (by omega))) (by omega))) (by omega))) (by omega))) (by omega)))).1)
                have GK : Hid (Ob w24 (w21.heap.size) 36 ({ e with vt := e1.vt, vp := e1.vp } : Ev)) := hid (heapB (((((((((((((HK.out).set (j := 10) (v := .int .i64 e1.ft) (e' := ({ e with ft := e1.ft } : Ev)) rfl)).set (j := 11) (v := .slice e1.fp.a e1.fp.n e1.fp.c) (e' := ({ e with ft := e1.ft, fp := e1.fp } : Ev)) rfl)).set (j := 10) (v := .int .i64 e.ft) (e' := ({ e with fp := e1.fp } : Ev)) rfl)).set (j := 11) (v := .slice e.fp.a e.fp.n e.fp.c) (e' := e) rfl)).set (j := 17) (v := .int .i64 e1.vt) (e' := ({ e with vt := e1.vt } : Ev)) rfl)).set (j := 18) (v := .slice e1.vp.a e1.vp.n e1.vp.c) (e' := ({ e with vt := e1.vt, vp := e1.vp } : Ev)) rfl)) hB (Array.getElem?_eq_some_iff.1 (((((((((((((HK.out).set (j := 10) (v := .int .i64 e1.ft) (e' := ({ e with ft := e1.ft } : Ev)) rfl)).set (j := 11) (v := .slice e1.fp.a e1.fp.n e1.fp.c) (e' := ({ e with ft := e1.ft, fp := e1.fp } : Ev)) rfl)).set (j := 10) (v := .int .i64 e.ft) (e' := ({ e with fp := e1.fp } : Ev)) rfl)).set (j := 11) (v := .slice e.fp.a e.fp.n e.fp.c) (e' := e) rfl)).set (j := 17) (v := .int .i64 e1.vt) (e' := ({ e with vt := e1.vt } : Ev)) rfl)).set (j := 18) (v := .slice e1.vp.a e1.vp.n e1.vp.c) (e' := ({ e with vt := e1.vt, vp := e1.vp } : Ev)) rfl))).1)
                have GW := hid ((((((((((((((HW.out).setCell (p := ⟨w21.heap.size, 10, none⟩) (by first | exact Nat.le_refl _ | (show w.heap.size ≤ w21.heap.size; omega)) (.int .i64 e1.ft))).setCell (p := ⟨w21.heap.size, 11, none⟩) (by first | exact Nat.le_refl _ | (show w.heap.size ≤ w21.heap.size; omega)) (.slice e1.fp.a e1.fp.n e1.fp.c))).setCell (p := ⟨w21.heap.size, 10, none⟩) (by first | exact Nat.le_refl _ | (show w.heap.size ≤ w21.heap.size; omega)) (.int .i64 e.ft))).setCell (p := ⟨w21.heap.size, 11, none⟩) (by first | exact Nat.le_refl _ | (show w.heap.size ≤ w21.heap.size; omega)) (.slice e.fp.a e.fp.n e.fp.c))).setCell (p := ⟨w21.heap.size, 17, none⟩) (by first | exact Nat.le_refl _ | (show w.heap.size ≤ w21.heap.size; omega)) (.int .i64 e1.vt))).setCell (p := ⟨w21.heap.size, 18, none⟩) (by first | exact Nat.le_refl _ | (show w.heap.size ≤ w21.heap.size; omega)) (.slice e1.vp.a e1.vp.n e1.vp.c))).trans (hB.mono (((((((((((((HW.out).setCell (p := ⟨w21.heap.size, 10, none⟩) (by first | exact Nat.le_refl _ | (show w.heap.size ≤ w21.heap.size; omega)) (.int .i64 e1.ft))).setCell (p := ⟨w21.heap.size, 11, none⟩) (by first | exact Nat.le_refl _ | (show w.heap.size ≤ w21.heap.size; omega)) (.slice e1.fp.a e1.fp.n e1.fp.c))).setCell (p := ⟨w21.heap.size, 10, none⟩) (by first | exact Nat.le_refl _ | (show w.heap.size ≤ w21.heap.size; omega)) (.int .i64 e.ft))).setCell (p := ⟨w21.heap.size, 11, none⟩) (by first | exact Nat.le_refl _ | (show w.heap.size ≤ w21.heap.size; omega)) (.slice e.fp.a e.fp.n e.fp.c))).setCell (p := ⟨w21.heap.size, 17, none⟩) (by first | exact Nat.le_refl _ | (show w.heap.size ≤ w21.heap.size; omega)) (.int .i64 e1.vt))).setCell (p := ⟨w21.heap.size, 18, none⟩) (by first | exact Nat.le_refl _ | (show w.heap.size ≤ w21.heap.size; omega)) (.slice e1.vp.a e1.vp.n e1.vp.c))).size))
                clear kX10 kX11 kX16 kN810 kN811 kN816 kN817 kN818 kK10 zK10 kK11 zK11 kK17 zK17 kK18 zK18
                clear hB HX HM HN8 HK HW
                have HX := GX; clear GX
                have HM := GM; clear GM
                have HN8 := GN8; clear GN8
                have HK := GK; clear GK
                have HW := GW; clear GW
                go_wp2_with (first
                  | ((with_reducible refine loadC (x := ?lx77) (b := ?lb77) (T := 30) e1 ?lg77 ?lo77 ?lxx77 ?lc77 ?lh77); (case lg77 => rfl); (case lo77 => rfl); (case lxx77 => rfl); (case lc77 => exact HN8.out))
                  | ((with_reducible refine storeC (x := ?sx78) (y := ?sy78) (b := ?sb78) (T := 30) e1 ?sg78 ?so78 ?sxx78 ?syy78 ?sc78 ?sh78); (case sg78 => rfl); (case so78 => rfl); (case sxx78 => rfl); (case syy78 => rfl); (case sc78 => exact Ob.room HX.out); intro w25 hO hU; have GX := hid hO; have GM : Hid (Ob w25 (w3.heap.size) 36 e) := hid (hU.ob (HM.out) (by omega)); have GN8 : Hid (Ob w25 (q8) 30 e1) := hid (hU.ob (HN8.out) (by omega)); have GK : Hid (Ob w25 (w21.heap.size) 36 ({ e with vt := e1.vt, vp := e1.vp } : Ev)) := hid (hU.ob (HK.out) (by omega)); have GW := hid ((HW.out).trans (hU.below _ (by first | exact Nat.le_refl _ | omega))); clear hO hU; clear HX HM HN8 HK HW; have HX := GX; clear GX; have HM := GM; clear GM; have HN8 := GN8; clear GN8; have HK := GK; clear GK; have HW := GW; clear GW)
                  | fail)
                go_roundw
                case rel => exact ⟨j + 1, e1, f1, a1, v1, by omega, by go_num, ⟨HX.out, HW.out, HNx.out.2.1, HNx.out.2.2.1, HNx.out.2.2.2.1, HNx.out.2.2.2.2.1, HNx.out.2.2.2.2.2.1, HNx.out.2.2.2.2.2.2, HNx.out.1.ok⟩⟩
                case measure => simp [RowKit.intOf]; omega
            · rcases h1 : e.dn with _ | _
              · skip
                have hq0 : (e.ft == 0) = false := by simp [h0]
                have hS1 := HS1.out
                rw [show sameE { e with ft := e1.ft, fp := e1.fp } f1 a v e f a v = true from same_f (HNx.out.1.fv.resolve_left h0)] at hS1
                clear HS1 HS2
                have H1 := hid h1
                clear h1
                go_wp2_with (first
                  | ((with_reducible refine loadC (x := ?lx79) (b := ?lb79) (T := 30) e ?lg79 ?lo79 ?lxx79 ?lc79 ?lh79); (case lg79 => rfl); (case lo79 => rfl); (case lxx79 => rfl); (case lc79 => exact HX.out))
                  | fail)
                go_at_call 8
                refine (hOf e _).mono ?_
                rintro x w21 ⟨rfl, hB⟩
                have GX : Hid (Ob w21 (w.heap.size) 30 e) := hid (heapB (HX.out) hB (Array.getElem?_eq_some_iff.1 (HX.out)).1)
                have GM : Hid (Ob w21 (w3.heap.size) 36 e) := hid (heapB (HM.out) hB (Array.getElem?_eq_some_iff.1 (HM.out)).1)
                have GN8 : Hid (Ob w21 (q8) 30 e1) := hid (heapB (HN8.out) hB (Array.getElem?_eq_some_iff.1 (HN8.out)).1)
                have GW := hid ((HW.out).trans (hB.mono (HW.out).size))
                clear hB HX HM HN8 HW
                have HX := GX; clear GX
                have HM := GM; clear GM
                have HN8 := GN8; clear GN8
                have HW := GW; clear GW
                have ltKX : w.heap.size < w21.heap.size := (Array.getElem?_eq_some_iff.1 (HX.out)).1
                have ltKM : w3.heap.size < w21.heap.size := (Array.getElem?_eq_some_iff.1 (HM.out)).1
                have ltKN8 : q8 < w21.heap.size := (Array.getElem?_eq_some_iff.1 (HN8.out)).1
                have ltwK : w.heap.size ≤ w21.heap.size := (HW.out).size
                have RK : Room (w21.alloc zeroE) (w21.heap.size) 36 := ⟨_, newAt (x := zeroE) rfl, rfl⟩
                have neX : ¬ w.heap.size = w21.heap.size := Nat.ne_of_lt ltKX
                have enX : ¬ w21.heap.size = w.heap.size := Nat.ne_of_gt ltKX
                have neN8 : ¬ q8 = w21.heap.size := Nat.ne_of_lt ltKN8
                have enN8 : ¬ w21.heap.size = q8 := Nat.ne_of_gt ltKN8
                go_wp2_with (first
                  | ((with_reducible refine uponStore (e := e) (RK) ?_); intro w22 hO hU; have GK := hid hO; have GX : Hid (Ob w22 (w.heap.size) 30 e) := hid (hU.ob ((obAlloc (x := zeroE) HX.out)) (by omega)); have GM : Hid (Ob w22 (w3.heap.size) 36 e) := hid (hU.ob ((obAlloc (x := zeroE) HM.out)) (by omega)); have GN8 : Hid (Ob w22 (q8) 30 e1) := hid (hU.ob ((obAlloc (x := zeroE) HN8.out)) (by omega)); have GW := hid ((((HW.out).alloc (HW.out).size zeroE)).trans (hU.below _ (by first | exact Nat.le_refl _ | omega))); clear hO hU; clear HX HM HN8 HW; have HX := GX; clear GX; have HM := GM; clear GM; have HN8 := GN8; clear GN8; have HK := GK; clear GK; have HW := GW; clear GW; have kX10 : w22.cell? ⟨w.heap.size, 10, none⟩ = some (.int .i64 e.ft) := (HX.out).cell (j := 10) rfl; have kX11 : w22.cell? ⟨w.heap.size, 11, none⟩ = some (.slice e.fp.a e.fp.n e.fp.c) := (HX.out).cell (j := 11) rfl; have kX16 : w22.cell? ⟨w.heap.size, 16, none⟩ = some (.bool e.dn) := (HX.out).cell (j := 16) rfl; have kN810 : w22.cell? ⟨q8, 10, none⟩ = some (.int .i64 e1.ft) := (HN8.out).cell (j := 10) rfl; have kN811 : w22.cell? ⟨q8, 11, none⟩ = some (.slice e1.fp.a e1.fp.n e1.fp.c) := (HN8.out).cell (j := 11) rfl; have kN816 : w22.cell? ⟨q8, 16, none⟩ = some (.bool e1.dn) := (HN8.out).cell (j := 16) rfl; have kN817 : w22.cell? ⟨q8, 17, none⟩ = some (.int .i64 e1.vt) := (HN8.out).cell (j := 17) rfl; have kN818 : w22.cell? ⟨q8, 18, none⟩ = some (.slice e1.vp.a e1.vp.n e1.vp.c) := (HN8.out).cell (j := 18) rfl; have kK10 : w22.cell? ⟨w21.heap.size, 10, none⟩ = some (.int .i64 e.ft) := (HK.out).cell (j := 10) rfl; have zK10 : w22.frozen? ⟨w21.heap.size, 10, none⟩ = false := (HK.out).free 10; have kK11 : w22.cell? ⟨w21.heap.size, 11, none⟩ = some (.slice e.fp.a e.fp.n e.fp.c) := (HK.out).cell (j := 11) rfl; have zK11 : w22.frozen? ⟨w21.heap.size, 11, none⟩ = false := (HK.out).free 11; have kK17 : w22.cell? ⟨w21.heap.size, 17, none⟩ = some (.int .i64 e.vt) := (HK.out).cell (j := 17) rfl; have zK17 : w22.frozen? ⟨w21.heap.size, 17, none⟩ = false := (HK.out).free 17; have kK18 : w22.cell? ⟨w21.heap.size, 18, none⟩ = some (.slice e.vp.a e.vp.n e.vp.c) := (HK.out).cell (j := 18) rfl; have zK18 : w22.frozen? ⟨w21.heap.size, 18, none⟩ = false := (HK.out).free 18; rw [H1.out] at kX16)
                  | ((with_reducible refine loadGR (x := ?lx80) (b := ?lb80) (T := 36) ({ e with ft := e1.ft, fp := e1.fp } : Ev) ?lg80 ?lo80 ?lxx80 ?lc80 ?lh80); (case lo80 => rfl); (case lg80 => rfl); (case lxx80 => rfl); (case lc80 => exact ((((HK.out).set (j := 10) (v := .int .i64 e1.ft) (e' := ({ e with ft := e1.ft } : Ev)) rfl)).set (j := 11) (v := .slice e1.fp.a e1.fp.n e1.fp.c) (e' := ({ e with ft := e1.ft, fp := e1.fp } : Ev)) rfl)))
                  | ((with_reducible refine loadGR (x := ?lx81) (b := ?lb81) (T := 36) e ?lg81 ?lo81 ?lxx81 ?lc81 ?lh81); (case lo81 => rfl); (case lg81 => rfl); (case lxx81 => rfl); (case lc81 => exact (setOther (q := w21.heap.size) (j := 11) (v := .slice e1.fp.a e1.fp.n e1.fp.c) ((setOther (q := w21.heap.size) (j := 10) (v := .int .i64 e1.ft) (HM.out) (by omega))) (by omega))))
                  | fail)
                go_at_call 10
                refine (hS1 _ (((((HW.out).setCell (p := ⟨w21.heap.size, 10, none⟩) (by first | exact Nat.le_refl _ | (show w.heap.size ≤ w21.heap.size; omega)) (.int .i64 e1.ft))).setCell (p := ⟨w21.heap.size, 11, none⟩) (by first | exact Nat.le_refl _ | (show w.heap.size ≤ w21.heap.size; omega)) (.slice e1.fp.a e1.fp.n e1.fp.c)))).mono ?_
                rintro x w23 ⟨rfl, hB⟩
                have GX : Hid (Ob w23 (w.heap.size) 30 e) := hid (heapB ((setOther (q := w21.heap.size) (j := 11) (v := .slice e1.fp.a e1.fp.n e1.fp.c) ((setOther (q := w21.heap.size) (j := 10) (v := .int .i64 e1.ft) (HX.out) (by omega))) (by omega))) hB (Array.getElem?_eq_some_iff.1 ((setOther (q := w21.heap.size) (j := 11) (v := .slice e1.fp.a e1.fp.n e1.fp.c) ((setOther (q := w21.heap.size) (j := 10) (v := .int .i64 e1.ft) (HX.out) (by omega))) (by omega)))).1)
                have GM : Hid (Ob w23 (w3.heap.size) 36 e) := hid (heapB ((setOther (q := w21.heap.size) (j := 11) (v := .slice e1.fp.a e1.fp.n e1.fp.c) ((setOther (q := w21.heap.size) (j := 10) (v := .int .i64 e1.ft) (HM.out) (by omega))) (by omega))) hB (Array.getElem?_eq_some_iff.1 ((setOther (q := w21.heap.size) (j := 11) (v := .slice e1.fp.a e1.fp.n e1.fp.c) ((setOther (q := w21.heap.size) (j := 10) (v := .int .i64 e1.ft) (HM.out) (by omega))) (by omega)))).1)
                have GN8 : Hid (Ob w23 (q8) 30 e1) := hid (heapB ((setOther (q := w21.heap.size) (j := 11) (v := .slice e1.fp.a e1.fp.n e1.fp.c) ((setOther (q := w21.heap.size) (j := 10) (v := .int .i64 e1.ft) (HN8.out) (by omega))) (by omega))) hB (Array.getElem?_eq_some_iff.1 ((setOther (q := w21.heap.size) (j := 11) (v := .slice e1.fp.a e1.fp.n e1.fp.c) ((setOther (q := w21.heap.size) (j := 10) (v := .int .i64 e1.ft) (HN8.out) (by omega))) (by omega)))).1)
                have GK : Hid (Ob w23 (w21.heap.size) 36 ({ e with ft := e1.ft, fp := e1.fp } : Ev)) := hid (heapB (((((HK.out).set (j := 10) (v := .int .i64 e1.ft) (e' := ({ e with ft := e1.ft } : Ev)) rfl)).set (j := 11) (v := .slice e1.fp.a e1.fp.n e1.fp.c) (e' := ({ e with ft := e1.ft, fp := e1.fp } : Ev)) rfl)) hB (Array.getElem?_eq_some_iff.1 (((((HK.out).set (j := 10) (v := .int .i64 e1.ft) (e' := ({ e with ft := e1.ft } : Ev)) rfl)).set (j := 11) (v := .slice e1.fp.a e1.fp.n e1.fp.c) (e' := ({ e with ft := e1.ft, fp := e1.fp } : Ev)) rfl))).1)
                have GW := hid ((((((HW.out).setCell (p := ⟨w21.heap.size, 10, none⟩) (by first | exact Nat.le_refl _ | (show w.heap.size ≤ w21.heap.size; omega)) (.int .i64 e1.ft))).setCell (p := ⟨w21.heap.size, 11, none⟩) (by first | exact Nat.le_refl _ | (show w.heap.size ≤ w21.heap.size; omega)) (.slice e1.fp.a e1.fp.n e1.fp.c))).trans (hB.mono (((((HW.out).setCell (p := ⟨w21.heap.size, 10, none⟩) (by first | exact Nat.le_refl _ | (show w.heap.size ≤ w21.heap.size; omega)) (.int .i64 e1.ft))).setCell (p := ⟨w21.heap.size, 11, none⟩) (by first | exact Nat.le_refl _ | (show w.heap.size ≤ w21.heap.size; omega)) (.slice e1.fp.a e1.fp.n e1.fp.c))).size))
                clear kX10 kX11 kX16 kN810 kN811 kN816 kN817 kN818 kK10 zK10 kK11 zK11 kK17 zK17 kK18 zK18
                clear hB HX HM HN8 HK HW
                have HX := GX; clear GX
                have HM := GM; clear GM
                have HN8 := GN8; clear GN8
                have HK := GK; clear GK
                have HW := GW; clear GW
                have kX10 : w23.cell? ⟨w.heap.size, 10, none⟩ = some (.int .i64 e.ft) := (HX.out).cell (j := 10) rfl
                have kX11 : w23.cell? ⟨w.heap.size, 11, none⟩ = some (.slice e.fp.a e.fp.n e.fp.c) := (HX.out).cell (j := 11) rfl
                have kX16 : w23.cell? ⟨w.heap.size, 16, none⟩ = some (.bool e.dn) := (HX.out).cell (j := 16) rfl
                have kN810 : w23.cell? ⟨q8, 10, none⟩ = some (.int .i64 e1.ft) := (HN8.out).cell (j := 10) rfl
                have kN811 : w23.cell? ⟨q8, 11, none⟩ = some (.slice e1.fp.a e1.fp.n e1.fp.c) := (HN8.out).cell (j := 11) rfl
                have kN816 : w23.cell? ⟨q8, 16, none⟩ = some (.bool e1.dn) := (HN8.out).cell (j := 16) rfl
                have kN817 : w23.cell? ⟨q8, 17, none⟩ = some (.int .i64 e1.vt) := (HN8.out).cell (j := 17) rfl
                have kN818 : w23.cell? ⟨q8, 18, none⟩ = some (.slice e1.vp.a e1.vp.n e1.vp.c) := (HN8.out).cell (j := 18) rfl
                have kK10 : w23.cell? ⟨w21.heap.size, 10, none⟩ = some (.int .i64 e1.ft) := (HK.out).cell (j := 10) rfl
                have zK10 : w23.frozen? ⟨w21.heap.size, 10, none⟩ = false := (HK.out).free 10
                have kK11 : w23.cell? ⟨w21.heap.size, 11, none⟩ = some (.slice e1.fp.a e1.fp.n e1.fp.c) := (HK.out).cell (j := 11) rfl
                have zK11 : w23.frozen? ⟨w21.heap.size, 11, none⟩ = false := (HK.out).free 11
                have kK17 : w23.cell? ⟨w21.heap.size, 17, none⟩ = some (.int .i64 e.vt) := (HK.out).cell (j := 17) rfl
                have zK17 : w23.frozen? ⟨w21.heap.size, 17, none⟩ = false := (HK.out).free 17
                have kK18 : w23.cell? ⟨w21.heap.size, 18, none⟩ = some (.slice e.vp.a e.vp.n e.vp.c) := (HK.out).cell (j := 18) rfl
                have zK18 : w23.frozen? ⟨w21.heap.size, 18, none⟩ = false := (HK.out).free 18
                rw [H1.out] at kX16
                go_wp2_with (first
                  | ((with_reducible refine loadC (x := ?lx82) (b := ?lb82) (T := 30) e1 ?lg82 ?lo82 ?lxx82 ?lc82 ?lh82); (case lg82 => rfl); (case lo82 => rfl); (case lxx82 => rfl); (case lc82 => exact (setOther (q := w21.heap.size) (j := 18) (v := .slice e1.vp.a e1.vp.n e1.vp.c) ((setOther (q := w21.heap.size) (j := 17) (v := .int .i64 e1.vt) ((setOther (q := w21.heap.size) (j := 11) (v := .slice e.fp.a e.fp.n e.fp.c) ((setOther (q := w21.heap.size) (j := 10) (v := .int .i64 e.ft) (HN8.out) (by omega))) (by omega))) (by omega))) (by omega))))
                  | ((with_reducible refine storeC (x := ?sx83) (y := ?sy83) (b := ?sb83) (T := 30) e1 ?sg83 ?so83 ?sxx83 ?syy83 ?sc83 ?sh83); (case sg83 => rfl); (case so83 => rfl); (case sxx83 => rfl); (case syy83 => rfl); (case sc83 => exact Ob.room (setOther (q := w21.heap.size) (j := 18) (v := .slice e1.vp.a e1.vp.n e1.vp.c) ((setOther (q := w21.heap.size) (j := 17) (v := .int .i64 e1.vt) ((setOther (q := w21.heap.size) (j := 11) (v := .slice e.fp.a e.fp.n e.fp.c) ((setOther (q := w21.heap.size) (j := 10) (v := .int .i64 e.ft) (HX.out) (by omega))) (by omega))) (by omega))) (by omega))); intro w25 hO hU; have GX := hid hO; have GM : Hid (Ob w25 (w3.heap.size) 36 e) := hid (hU.ob ((setOther (q := w21.heap.size) (j := 18) (v := .slice e1.vp.a e1.vp.n e1.vp.c) ((setOther (q := w21.heap.size) (j := 17) (v := .int .i64 e1.vt) ((setOther (q := w21.heap.size) (j := 11) (v := .slice e.fp.a e.fp.n e.fp.c) ((setOther (q := w21.heap.size) (j := 10) (v := .int .i64 e.ft) (HM.out) (by omega))) (by omega))) (by omega))) (by omega))) (by omega)); have GN8 : Hid (Ob w25 (q8) 30 e1) := hid (hU.ob ((setOther (q := w21.heap.size) (j := 18) (v := .slice e1.vp.a e1.vp.n e1.vp.c) ((setOther (q := w21.heap.size) (j := 17) (v := .int .i64 e1.vt) ((setOther (q := w21.heap.size) (j := 11) (v := .slice e.fp.a e.fp.n e.fp.c) ((setOther (q := w21.heap.size) (j := 10) (v := .int .i64 e.ft) (HN8.out) (by omega))) (by omega))) (by omega))) (by omega))) (by omega)); have GK : Hid (Ob w25 (w21.heap.size) 36 ({ e with vt := e1.vt, vp := e1.vp } : Ev)) := hid (hU.ob (((((((((HK.out).set (j := 10) (v := .int .i64 e.ft) (e' := ({ e with fp := e1.fp } : Ev)) rfl)).set (j := 11) (v := .slice e.fp.a e.fp.n e.fp.c) (e' := e) rfl)).set (j := 17) (v := .int .i64 e1.vt) (e' := ({ e with vt := e1.vt } : Ev)) rfl)).set (j := 18) (v := .slice e1.vp.a e1.vp.n e1.vp.c) (e' := ({ e with vt := e1.vt, vp := e1.vp } : Ev)) rfl)) (by omega)); have GW := hid ((((((((((HW.out).setCell (p := ⟨w21.heap.size, 10, none⟩) (by first | exact Nat.le_refl _ | (show w.heap.size ≤ w21.heap.size; omega)) (.int .i64 e.ft))).setCell (p := ⟨w21.heap.size, 11, none⟩) (by first | exact Nat.le_refl _ | (show w.heap.size ≤ w21.heap.size; omega)) (.slice e.fp.a e.fp.n e.fp.c))).setCell (p := ⟨w21.heap.size, 17, none⟩) (by first | exact Nat.le_refl _ | (show w.heap.size ≤ w21.heap.size; omega)) (.int .i64 e1.vt))).setCell (p := ⟨w21.heap.size, 18, none⟩) (by first | exact Nat.le_refl _ | (show w.heap.size ≤ w21.heap.size; omega)) (.slice e1.vp.a e1.vp.n e1.vp.c))).trans (hU.below _ (by first | exact Nat.le_refl _ | omega))); clear hO hU; clear kX10 kX11 kX16 kN810 kN811 kN816 kN817 kN818 kK10 zK10 kK11 zK11 kK17 zK17 kK18 zK18; clear HX HM HN8 HK HW; have HX := GX; clear GX; have HM := GM; clear GM; have HN8 := GN8; clear GN8; have HK := GK; clear GK; have HW := GW; clear GW)
                  | fail)
                go_roundw
                case rel => exact ⟨j + 1, e1, f1, a1, v1, by omega, by go_num, ⟨HX.out, HW.out, HNx.out.2.1, HNx.out.2.2.1, HNx.out.2.2.2.1, HNx.out.2.2.2.2.1, HNx.out.2.2.2.2.2.1, HNx.out.2.2.2.2.2.2, HNx.out.1.ok⟩⟩
                case measure => simp [RowKit.intOf]; omega
              · skip
                have HDN := hid ((HNx.out.1.dv.resolve_left (by simp [h1])).1)
                have hq0 : (e.ft == 0) = false := by simp [h0]
                have hS1 := HS1.out
                rw [show sameE { e with ft := e1.ft, fp := e1.fp } f1 a v e f a v = true from same_f (HNx.out.1.fv.resolve_left h0)] at hS1
                have hS2 := HS2.out
                rw [show sameE { e with vt := e1.vt, vp := e1.vp } f a v1 e f a v = true from same_v (HNx.out.1.dv.resolve_left (by simp [h1])).2] at hS2
                clear HS1 HS2
                have H1 := hid h1
                clear h1
                go_wp2_with (first
                  | ((with_reducible refine loadC (x := ?lx84) (b := ?lb84) (T := 30) e ?lg84 ?lo84 ?lxx84 ?lc84 ?lh84); (case lg84 => rfl); (case lo84 => rfl); (case lxx84 => rfl); (case lc84 => exact HX.out))
                  | fail)
                go_at_call 8
                refine (hOf e _).mono ?_
                rintro x w21 ⟨rfl, hB⟩
                have GX : Hid (Ob w21 (w.heap.size) 30 e) := hid (heapB (HX.out) hB (Array.getElem?_eq_some_iff.1 (HX.out)).1)
                have GM : Hid (Ob w21 (w3.heap.size) 36 e) := hid (heapB (HM.out) hB (Array.getElem?_eq_some_iff.1 (HM.out)).1)
                have GN8 : Hid (Ob w21 (q8) 30 e1) := hid (heapB (HN8.out) hB (Array.getElem?_eq_some_iff.1 (HN8.out)).1)
                have GW := hid ((HW.out).trans (hB.mono (HW.out).size))
                clear hB HX HM HN8 HW
                have HX := GX; clear GX
                have HM := GM; clear GM
                have HN8 := GN8; clear GN8
                have HW := GW; clear GW
                have ltKX : w.heap.size < w21.heap.size := (Array.getElem?_eq_some_iff.1 (HX.out)).1
                have ltKM : w3.heap.size < w21.heap.size := (Array.getElem?_eq_some_iff.1 (HM.out)).1
                have ltKN8 : q8 < w21.heap.size := (Array.getElem?_eq_some_iff.1 (HN8.out)).1
                have ltwK : w.heap.size ≤ w21.heap.size := (HW.out).size
                have RK : Room (w21.alloc zeroE) (w21.heap.size) 36 := ⟨_, newAt (x := zeroE) rfl, rfl⟩
                have neX : ¬ w.heap.size = w21.heap.size := Nat.ne_of_lt ltKX
                have enX : ¬ w21.heap.size = w.heap.size := Nat.ne_of_gt ltKX
                have neN8 : ¬ q8 = w21.heap.size := Nat.ne_of_lt ltKN8
                have enN8 : ¬ w21.heap.size = q8 := Nat.ne_of_gt ltKN8
                go_wp2_with (first
                  | ((with_reducible refine uponStore (e := e) (RK) ?_); intro w22 hO hU; have GK := hid hO; have GX : Hid (Ob w22 (w.heap.size) 30 e) := hid (hU.ob ((obAlloc (x := zeroE) HX.out)) (by omega)); have GM : Hid (Ob w22 (w3.heap.size) 36 e) := hid (hU.ob ((obAlloc (x := zeroE) HM.out)) (by omega)); have GN8 : Hid (Ob w22 (q8) 30 e1) := hid (hU.ob ((obAlloc (x := zeroE) HN8.out)) (by omega)); have GW := hid ((((HW.out).alloc (HW.out).size zeroE)).trans (hU.below _ (by first | exact Nat.le_refl _ | omega))); clear hO hU; clear HX HM HN8 HW; have HX := GX; clear GX; have HM := GM; clear GM; have HN8 := GN8; clear GN8; have HK := GK; clear GK; have HW := GW; clear GW; have kX10 : w22.cell? ⟨w.heap.size, 10, none⟩ = some (.int .i64 e.ft) := (HX.out).cell (j := 10) rfl; have kX11 : w22.cell? ⟨w.heap.size, 11, none⟩ = some (.slice e.fp.a e.fp.n e.fp.c) := (HX.out).cell (j := 11) rfl; have kX16 : w22.cell? ⟨w.heap.size, 16, none⟩ = some (.bool e.dn) := (HX.out).cell (j := 16) rfl; have kN810 : w22.cell? ⟨q8, 10, none⟩ = some (.int .i64 e1.ft) := (HN8.out).cell (j := 10) rfl; have kN811 : w22.cell? ⟨q8, 11, none⟩ = some (.slice e1.fp.a e1.fp.n e1.fp.c) := (HN8.out).cell (j := 11) rfl; have kN816 : w22.cell? ⟨q8, 16, none⟩ = some (.bool e1.dn) := (HN8.out).cell (j := 16) rfl; have kN817 : w22.cell? ⟨q8, 17, none⟩ = some (.int .i64 e1.vt) := (HN8.out).cell (j := 17) rfl; have kN818 : w22.cell? ⟨q8, 18, none⟩ = some (.slice e1.vp.a e1.vp.n e1.vp.c) := (HN8.out).cell (j := 18) rfl; have kK10 : w22.cell? ⟨w21.heap.size, 10, none⟩ = some (.int .i64 e.ft) := (HK.out).cell (j := 10) rfl; have zK10 : w22.frozen? ⟨w21.heap.size, 10, none⟩ = false := (HK.out).free 10; have kK11 : w22.cell? ⟨w21.heap.size, 11, none⟩ = some (.slice e.fp.a e.fp.n e.fp.c) := (HK.out).cell (j := 11) rfl; have zK11 : w22.frozen? ⟨w21.heap.size, 11, none⟩ = false := (HK.out).free 11; have kK17 : w22.cell? ⟨w21.heap.size, 17, none⟩ = some (.int .i64 e.vt) := (HK.out).cell (j := 17) rfl; have zK17 : w22.frozen? ⟨w21.heap.size, 17, none⟩ = false := (HK.out).free 17; have kK18 : w22.cell? ⟨w21.heap.size, 18, none⟩ = some (.slice e.vp.a e.vp.n e.vp.c) := (HK.out).cell (j := 18) rfl; have zK18 : w22.frozen? ⟨w21.heap.size, 18, none⟩ = false := (HK.out).free 18; rw [H1.out] at kX16; rw [HDN.out] at kN816)
                  | ((with_reducible refine loadGR (x := ?lx85) (b := ?lb85) (T := 36) ({ e with ft := e1.ft, fp := e1.fp } : Ev) ?lg85 ?lo85 ?lxx85 ?lc85 ?lh85); (case lo85 => rfl); (case lg85 => rfl); (case lxx85 => rfl); (case lc85 => exact ((((HK.out).set (j := 10) (v := .int .i64 e1.ft) (e' := ({ e with ft := e1.ft } : Ev)) rfl)).set (j := 11) (v := .slice e1.fp.a e1.fp.n e1.fp.c) (e' := ({ e with ft := e1.ft, fp := e1.fp } : Ev)) rfl)))
                  | ((with_reducible refine loadGR (x := ?lx86) (b := ?lb86) (T := 36) e ?lg86 ?lo86 ?lxx86 ?lc86 ?lh86); (case lo86 => rfl); (case lg86 => rfl); (case lxx86 => rfl); (case lc86 => exact (setOther (q := w21.heap.size) (j := 11) (v := .slice e1.fp.a e1.fp.n e1.fp.c) ((setOther (q := w21.heap.size) (j := 10) (v := .int .i64 e1.ft) (HM.out) (by omega))) (by omega))))
                  | fail)
                go_at_call 10
                refine (hS1 _ (((((HW.out).setCell (p := ⟨w21.heap.size, 10, none⟩) (by first | exact Nat.le_refl _ | (show w.heap.size ≤ w21.heap.size; omega)) (.int .i64 e1.ft))).setCell (p := ⟨w21.heap.size, 11, none⟩) (by first | exact Nat.le_refl _ | (show w.heap.size ≤ w21.heap.size; omega)) (.slice e1.fp.a e1.fp.n e1.fp.c)))).mono ?_
                rintro x w23 ⟨rfl, hB⟩
                have GX : Hid (Ob w23 (w.heap.size) 30 e) := hid (heapB ((setOther (q := w21.heap.size) (j := 11) (v := .slice e1.fp.a e1.fp.n e1.fp.c) ((setOther (q := w21.heap.size) (j := 10) (v := .int .i64 e1.ft) (HX.out) (by omega))) (by omega))) hB (Array.getElem?_eq_some_iff.1 ((setOther (q := w21.heap.size) (j := 11) (v := .slice e1.fp.a e1.fp.n e1.fp.c) ((setOther (q := w21.heap.size) (j := 10) (v := .int .i64 e1.ft) (HX.out) (by omega))) (by omega)))).1)
                have GM : Hid (Ob w23 (w3.heap.size) 36 e) := hid (heapB ((setOther (q := w21.heap.size) (j := 11) (v := .slice e1.fp.a e1.fp.n e1.fp.c) ((setOther (q := w21.heap.size) (j := 10) (v := .int .i64 e1.ft) (HM.out) (by omega))) (by omega))) hB (Array.getElem?_eq_some_iff.1 ((setOther (q := w21.heap.size) (j := 11) (v := .slice e1.fp.a e1.fp.n e1.fp.c) ((setOther (q := w21.heap.size) (j := 10) (v := .int .i64 e1.ft) (HM.out) (by omega))) (by omega)))).1)
                have GN8 : Hid (Ob w23 (q8) 30 e1) := hid (heapB ((setOther (q := w21.heap.size) (j := 11) (v := .slice e1.fp.a e1.fp.n e1.fp.c) ((setOther (q := w21.heap.size) (j := 10) (v := .int .i64 e1.ft) (HN8.out) (by omega))) (by omega))) hB (Array.getElem?_eq_some_iff.1 ((setOther (q := w21.heap.size) (j := 11) (v := .slice e1.fp.a e1.fp.n e1.fp.c) ((setOther (q := w21.heap.size) (j := 10) (v := .int .i64 e1.ft) (HN8.out) (by omega))) (by omega)))).1)
                have GK : Hid (Ob w23 (w21.heap.size) 36 ({ e with ft := e1.ft, fp := e1.fp } : Ev)) := hid (heapB (((((HK.out).set (j := 10) (v := .int .i64 e1.ft) (e' := ({ e with ft := e1.ft } : Ev)) rfl)).set (j := 11) (v := .slice e1.fp.a e1.fp.n e1.fp.c) (e' := ({ e with ft := e1.ft, fp := e1.fp } : Ev)) rfl)) hB (Array.getElem?_eq_some_iff.1 (((((HK.out).set (j := 10) (v := .int .i64 e1.ft) (e' := ({ e with ft := e1.ft } : Ev)) rfl)).set (j := 11) (v := .slice e1.fp.a e1.fp.n e1.fp.c) (e' := ({ e with ft := e1.ft, fp := e1.fp } : Ev)) rfl))).1)
                have GW := hid ((((((HW.out).setCell (p := ⟨w21.heap.size, 10, none⟩) (by first | exact Nat.le_refl _ | (show w.heap.size ≤ w21.heap.size; omega)) (.int .i64 e1.ft))).setCell (p := ⟨w21.heap.size, 11, none⟩) (by first | exact Nat.le_refl _ | (show w.heap.size ≤ w21.heap.size; omega)) (.slice e1.fp.a e1.fp.n e1.fp.c))).trans (hB.mono (((((HW.out).setCell (p := ⟨w21.heap.size, 10, none⟩) (by first | exact Nat.le_refl _ | (show w.heap.size ≤ w21.heap.size; omega)) (.int .i64 e1.ft))).setCell (p := ⟨w21.heap.size, 11, none⟩) (by first | exact Nat.le_refl _ | (show w.heap.size ≤ w21.heap.size; omega)) (.slice e1.fp.a e1.fp.n e1.fp.c))).size))
                clear kX10 kX11 kX16 kN810 kN811 kN816 kN817 kN818 kK10 zK10 kK11 zK11 kK17 zK17 kK18 zK18
                clear hB HX HM HN8 HK HW
                have HX := GX; clear GX
                have HM := GM; clear GM
                have HN8 := GN8; clear GN8
                have HK := GK; clear GK
                have HW := GW; clear GW
                have kX10 : w23.cell? ⟨w.heap.size, 10, none⟩ = some (.int .i64 e.ft) := (HX.out).cell (j := 10) rfl
                have kX11 : w23.cell? ⟨w.heap.size, 11, none⟩ = some (.slice e.fp.a e.fp.n e.fp.c) := (HX.out).cell (j := 11) rfl
                have kX16 : w23.cell? ⟨w.heap.size, 16, none⟩ = some (.bool e.dn) := (HX.out).cell (j := 16) rfl
                have kN810 : w23.cell? ⟨q8, 10, none⟩ = some (.int .i64 e1.ft) := (HN8.out).cell (j := 10) rfl
                have kN811 : w23.cell? ⟨q8, 11, none⟩ = some (.slice e1.fp.a e1.fp.n e1.fp.c) := (HN8.out).cell (j := 11) rfl
                have kN816 : w23.cell? ⟨q8, 16, none⟩ = some (.bool e1.dn) := (HN8.out).cell (j := 16) rfl
                have kN817 : w23.cell? ⟨q8, 17, none⟩ = some (.int .i64 e1.vt) := (HN8.out).cell (j := 17) rfl
                have kN818 : w23.cell? ⟨q8, 18, none⟩ = some (.slice e1.vp.a e1.vp.n e1.vp.c) := (HN8.out).cell (j := 18) rfl
                have kK10 : w23.cell? ⟨w21.heap.size, 10, none⟩ = some (.int .i64 e1.ft) := (HK.out).cell (j := 10) rfl
                have zK10 : w23.frozen? ⟨w21.heap.size, 10, none⟩ = false := (HK.out).free 10
                have kK11 : w23.cell? ⟨w21.heap.size, 11, none⟩ = some (.slice e1.fp.a e1.fp.n e1.fp.c) := (HK.out).cell (j := 11) rfl
                have zK11 : w23.frozen? ⟨w21.heap.size, 11, none⟩ = false := (HK.out).free 11
                have kK17 : w23.cell? ⟨w21.heap.size, 17, none⟩ = some (.int .i64 e.vt) := (HK.out).cell (j := 17) rfl
                have zK17 : w23.frozen? ⟨w21.heap.size, 17, none⟩ = false := (HK.out).free 17
                have kK18 : w23.cell? ⟨w21.heap.size, 18, none⟩ = some (.slice e.vp.a e.vp.n e.vp.c) := (HK.out).cell (j := 18) rfl
                have zK18 : w23.frozen? ⟨w21.heap.size, 18, none⟩ = false := (HK.out).free 18
                rw [H1.out] at kX16
                rw [HDN.out] at kN816
                go_wp2_with (first
                  | ((with_reducible refine loadGR (x := ?lx87) (b := ?lb87) (T := 36) ({ e with vt := e1.vt, vp := e1.vp } : Ev) ?lg87 ?lo87 ?lxx87 ?lc87 ?lh87); (case lo87 => rfl); (case lg87 => rfl); (case lxx87 => rfl); (case lc87 => exact ((((((((HK.out).set (j := 10) (v := .int .i64 e.ft) (e' := ({ e with fp := e1.fp } : Ev)) rfl)).set (j := 11) (v := .slice e.fp.a e.fp.n e.fp.c) (e' := e) rfl)).set (j := 17) (v := .int .i64 e1.vt) (e' := ({ e with vt := e1.vt } : Ev)) rfl)).set (j := 18) (v := .slice e1.vp.a e1.vp.n e1.vp.c) (e' := ({ e with vt := e1.vt, vp := e1.vp } : Ev)) rfl)))
                  | ((with_reducible refine loadGR (x := ?lx88) (b := ?lb88) (T := 36) e ?lg88 ?lo88 ?lxx88 ?lc88 ?lh88); (case lo88 => rfl); (case lg88 => rfl); (case lxx88 => rfl); (case lc88 => exact (setOther (q := w21.heap.size) (j := 18) (v := .slice e1.vp.a e1.vp.n e1.vp.c) ((setOther (q := w21.heap.size) (j := 17) (v := .int .i64 e1.vt) ((setOther (q := w21.heap.size) (j := 11) (v := .slice e.fp.a e.fp.n e.fp.c) ((setOther (q := w21.heap.size) (j := 10) (v := .int .i64 e.ft) (HM.out) (by omega))) (by omega))) (by omega))) (by omega))))
                  | fail)
                go_at_call 10
                refine (hS2 _ (((((((((HW.out).setCell (p := ⟨w21.heap.size, 10, none⟩) (by first | exact Nat.le_refl _ | (show w.heap.size ≤ w21.heap.size; omega)) (.int .i64 e.ft))).setCell (p := ⟨w21.heap.size, 11, none⟩) (by first | exact Nat.le_refl _ | (show w.heap.size ≤ w21.heap.size; omega)) (.slice e.fp.a e.fp.n e.fp.c))).setCell (p := ⟨w21.heap.size, 17, none⟩) (by first | exact Nat.le_refl _ | (show w.heap.size ≤ w21.heap.size; omega)) (.int .i64 e1.vt))).setCell (p := ⟨w21.heap.size, 18, none⟩) (by first | exact Nat.le_refl _ | (show w.heap.size ≤ w21.heap.size; omega)) (.slice e1.vp.a e1.vp.n e1.vp.c)))).mono ?_
                rintro x w24 ⟨rfl, hB⟩
                have GX : Hid (Ob w24 (w.heap.size) 30 e) := hid (heapB ((setOther (q := w21.heap.size) (j := 18) (v := .slice e1.vp.a e1.vp.n e1.vp.c) ((setOther (q := w21.heap.size) (j := 17) (v := .int .i64 e1.vt) ((setOther (q := w21.heap.size) (j := 11) (v := .slice e.fp.a e.fp.n e.fp.c) ((setOther (q := w21.heap.size) (j := 10) (v := .int .i64 e.ft) (HX.out) (by omega))) (by omega))) (by omega))) (by omega))) hB (Array.getElem?_eq_some_iff.1 ((setOther (q := w21.heap.size) (j := 18) (v := .slice e1.vp.a e1.vp.n e1.vp.c) ((setOther (q := w21.heap.size) (j := 17) (v := .int .i64 e1.vt) ((setOther (q := w21.heap.size) (j := 11) (v := .slice e.fp.a e.fp.n e.fp.c) ((setOther (q := w21.heap.size) (j := 10) (v := .int .i64 e.ft) (HX.out) (by omega))) (by omega))) (by omega))) (by omega)))).1)
                have GM : Hid (Ob w24 (w3.heap.size) 36 e) := hid (heapB ((setOther (q := w21.heap.size) (j := 18) (v := .slice e1.vp.a e1.vp.n e1.vp.c) ((setOther (q := w21.heap.size) (j := 17) (v := .int .i64 e1.vt) ((setOther (q := w21.heap.size) (j := 11) (v := .slice e.fp.a e.fp.n e.fp.c) ((setOther (q := w21.heap.size) (j := 10) (v := .int .i64 e.ft) (HM.out) (by omega))) (by omega))) (by omega))) (by omega))) hB (Array.getElem?_eq_some_iff.1 ((setOther (q := w21.heap.size) (j := 18) (v := .slice e1.vp.a e1.vp.n e1.vp.c) ((setOther (q := w21.heap.size) (j := 17) (v := .int .i64 e1.vt) ((setOther (q := w21.heap.size) (j := 11) (v := .slice e.fp.a e.fp.n e.fp.c) ((setOther (q := w21.heap.size) (j := 10) (v := .int .i64 e.ft) (HM.out) (by omega))) (by omega))) (by omega))) (by omega)))).1)
                have GN8 : Hid (Ob w24 (q8) 30 e1) := hid (heapB ((setOther (q := w21.heap.size) (j := 18) (v := .slice e1.vp.a e1.vp.n e1.vp.c) ((setOther (q := w21.heap.size) (j := 17) (v := .int .i64 e1.vt) ((setOther (q := w21.heap.size) (j := 11) (v := .slice e.fp.a e.fp.n e.fp.c) ((setOther (q := w21.heap.size) (j := 10) (v := .int .i64 e.ft) (HN8.out) (by omega))) (by omega))) (by omega))) (by omega))) hB (Array.getElem?_eq_some_iff.1 ((setOther (q := w21.heap.size) (j := 18) (v := .slice e1.vp.a e1.vp.n e1.vp.c) ((setOther (q := w21.heap.size) (j := 17) (v := .int .i64 e1.vt) ((setOther (q := w21.heap.size) (j := 11) (v := .slice e.fp.a e.fp.n e.fp.c) ((setOther (q := w21.heap.size) (j := 10) (v := .int .i64 e.ft) (HN8.out) (by omega))) (by omega))) (by omega))) (by omega)))).1)
                have GK : Hid (Ob w24 (w21.heap.size) 36 ({ e with vt := e1.vt, vp := e1.vp } : Ev)) := hid (heapB (((((((((HK.out).set (j := 10) (v := .int .i64 e.ft) (e' := ({ e with fp := e1.fp } : Ev)) rfl)).set (j := 11) (v := .slice e.fp.a e.fp.n e.fp.c) (e' := e) rfl)).set (j := 17) (v := .int .i64 e1.vt) (e' := ({ e with vt := e1.vt } : Ev)) rfl)).set (j := 18) (v := .slice e1.vp.a e1.vp.n e1.vp.c) (e' := ({ e with vt := e1.vt, vp := e1.vp } : Ev)) rfl)) hB (Array.getElem?_eq_some_iff.1 (((((((((HK.out).set (j := 10) (v := .int .i64 e.ft) (e' := ({ e with fp := e1.fp } : Ev)) rfl)).set (j := 11) (v := .slice e.fp.a e.fp.n e.fp.c) (e' := e) rfl)).set (j := 17) (v := .int .i64 e1.vt) (e' := ({ e with vt := e1.vt } : Ev)) rfl)).set (j := 18) (v := .slice e1.vp.a e1.vp.n e1.vp.c) (e' := ({ e with vt := e1.vt, vp := e1.vp } : Ev)) rfl))).1)
                have GW := hid ((((((((((HW.out).setCell (p := ⟨w21.heap.size, 10, none⟩) (by first | exact Nat.le_refl _ | (show w.heap.size ≤ w21.heap.size; omega)) (.int .i64 e.ft))).setCell (p := ⟨w21.heap.size, 11, none⟩) (by first | exact Nat.le_refl _ | (show w.heap.size ≤ w21.heap.size; omega)) (.slice e.fp.a e.fp.n e.fp.c))).setCell (p := ⟨w21.heap.size, 17, none⟩) (by first | exact Nat.le_refl _ | (show w.heap.size ≤ w21.heap.size; omega)) (.int .i64 e1.vt))).setCell (p := ⟨w21.heap.size, 18, none⟩) (by first | exact Nat.le_refl _ | (show w.heap.size ≤ w21.heap.size; omega)) (.slice e1.vp.a e1.vp.n e1.vp.c))).trans (hB.mono (((((((((HW.out).setCell (p := ⟨w21.heap.size, 10, none⟩) (by first | exact Nat.le_refl _ | (show w.heap.size ≤ w21.heap.size; omega)) (.int .i64 e.ft))).setCell (p := ⟨w21.heap.size, 11, none⟩) (by first | exact Nat.le_refl _ | (show w.heap.size ≤ w21.heap.size; omega)) (.slice e.fp.a e.fp.n e.fp.c))).setCell (p := ⟨w21.heap.size, 17, none⟩) (by first | exact Nat.le_refl _ | (show w.heap.size ≤ w21.heap.size; omega)) (.int .i64 e1.vt))).setCell (p := ⟨w21.heap.size, 18, none⟩) (by first | exact Nat.le_refl _ | (show w.heap.size ≤ w21.heap.size; omega)) (.slice e1.vp.a e1.vp.n e1.vp.c))).size))
                clear kX10 kX11 kX16 kN810 kN811 kN816 kN817 kN818 kK10 zK10 kK11 zK11 kK17 zK17 kK18 zK18
                clear hB HX HM HN8 HK HW
                have HX := GX; clear GX
                have HM := GM; clear GM
                have HN8 := GN8; clear GN8
                have HK := GK; clear GK
                have HW := GW; clear GW
                go_wp2_with (first
                  | ((with_reducible refine loadC (x := ?lx89) (b := ?lb89) (T := 30) e1 ?lg89 ?lo89 ?lxx89 ?lc89 ?lh89); (case lg89 => rfl); (case lo89 => rfl); (case lxx89 => rfl); (case lc89 => exact HN8.out))
                  | ((with_reducible refine storeC (x := ?sx90) (y := ?sy90) (b := ?sb90) (T := 30) e1 ?sg90 ?so90 ?sxx90 ?syy90 ?sc90 ?sh90); (case sg90 => rfl); (case so90 => rfl); (case sxx90 => rfl); (case syy90 => rfl); (case sc90 => exact Ob.room HX.out); intro w25 hO hU; have GX := hid hO; have GM : Hid (Ob w25 (w3.heap.size) 36 e) := hid (hU.ob (HM.out) (by omega)); have GN8 : Hid (Ob w25 (q8) 30 e1) := hid (hU.ob (HN8.out) (by omega)); have GK : Hid (Ob w25 (w21.heap.size) 36 ({ e with vt := e1.vt, vp := e1.vp } : Ev)) := hid (hU.ob (HK.out) (by omega)); have GW := hid ((HW.out).trans (hU.below _ (by first | exact Nat.le_refl _ | omega))); clear hO hU; clear HX HM HN8 HK HW; have HX := GX; clear GX; have HM := GM; clear GM; have HN8 := GN8; clear GN8; have HK := GK; clear GK; have HW := GW; clear GW)
                  | fail)
                go_roundw
                case rel => exact ⟨j + 1, e1, f1, a1, v1, by omega, by go_num, ⟨HX.out, HW.out, HNx.out.2.1, HNx.out.2.2.1, HNx.out.2.2.2.1, HNx.out.2.2.2.2.1, HNx.out.2.2.2.2.2.1, HNx.out.2.2.2.2.2.2, HNx.out.1.ok⟩⟩
                case measure => simp [RowKit.intOf]; omega
      · have hp2 : (80 : Int) < (A.p.n : Int) := by omega
        go_wp2_with fail
        go_at_call 7
        refine (hL _).mono ?_
        rintro x w3 ⟨rfl, hB⟩
        have GX : Hid (Ob w3 (w.heap.size) 30 e) := hid (heapB (HX.out) hB (Array.getElem?_eq_some_iff.1 (HX.out)).1)
        have GW := hid ((HW.out).trans (hB.mono (HW.out).size))
        clear kA0 kA1 kA2 kA3
        clear hB HX HW
        have HX := GX; clear GX
        have HW := GW; clear GW
        go_wp2_with fail
        go_ret
        exact ⟨rfl, HW.out⟩
    · have hlt2 : ¬ (j : Int) < (n : Int) := by omega
      go_wp2_with fail
      go_at_call 7
      refine (hL _).mono ?_
      rintro x w3 ⟨rfl, hB⟩
      have GX : Hid (Ob w3 (w.heap.size) 30 e) := hid (heapB (HX.out) hB (Array.getElem?_eq_some_iff.1 (HX.out)).1)
      have GW := hid ((HW.out).trans (hB.mono (HW.out).size))
      clear hB HX HW
      have HX := GX; clear GX
      have HW := GW; clear GW
      go_wp2_with fail
      go_ret
      exact ⟨rfl, HW.out⟩
end Go.Proofs.Ytmndjdaiailgmaa
