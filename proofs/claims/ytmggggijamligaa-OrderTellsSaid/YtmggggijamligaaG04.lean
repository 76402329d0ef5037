import Derived.Test.YtmggggijamligaaG03
namespace Go.Proofs.Ytmggggijamligaa
set_option linter.unusedVariables false
open Go.RowKit
open Go.Lib (hid)
abbrev zeroEr : Obj := .cells #[.int .i64 0, .int .i64 0, .int .i64 0, .int .i64 0, .int .i64 0, .int .i64 0, .int .i64 0, .int .i64 0, .int .i64 0, .int .i64 0, .int .i64 0, .slice none 0 0, .int .i64 0, .int .i64 0, .slice none 0 0, .bool false, .bool false, .int .i64 0, .slice none 0 0] 39
theorem dep_none {l : List En} {had : List Int} {t : Int} {c : C7} (h : findN l c.i = none) : depB l had t c = false := by
  unfold depB; rw [findN_none h]
theorem dep_some {l : List En} {had : List Int} {t : Int} {c : C7} {j : Nat} {y : En} (h : findN l c.i = some j) (hy : l[j]? = some y) : depB l had t c = (y.e.dn && (decide (t < y.e.vt) || hasI had c.i)) := by
  obtain ⟨z, hz, _, hf⟩ := findN_some h
  rw [hz] at hy
  obtain rfl := Option.some.inj hy
  unfold depB; rw [hf]
theorem ready_no {l : List En} {had : List Int} {i : Nat} {x : En} {k : Nat} {c : C7} (hc : x.v[k]? = some c) (h : depB l had x.e.vt c = false) : readyB l had i x = false := by
  unfold readyB
  rw [Bool.and_eq_false_iff]
  exact .inr (List.all_eq_false.2 ⟨c, List.mem_of_getElem? hc, by rw [h]; decide⟩)
theorem dep_next {l : List En} {had : List Int} {t : Int} {vs : List C7} {k : Nat} {c : C7} (hc : vs[k]? = some c) (h : ∀ z ∈ vs.take k, depB l had t z = true) (h1 : depB l had t c = true) : ∀ z ∈ vs.take (k + 1), depB l had t z = true := fun z hz => by
  rw [List.take_add_one, hc] at hz
  rcases List.mem_append.1 hz with hz | hz
  · exact h z hz
  · simp at hz; subst hz; exact h1
theorem optI_eq {o : Option Nat} {i : Nat} (h : optI o = (i : Int)) : o = some i := by
  rcases o with _ | j
  · exact absurd h (by simp only [optI]; omega)
  · have : (j : Int) = (i : Int) := h
    exact congrArg some (by omega)
theorem optI_ne {o : Option Nat} {i : Nat} (h : ¬ optI o = (i : Int)) : decide (o = some i) = false := decide_eq_false fun e => h (by rw [e]; rfl)
set_option maxHeartbeats 4000000 in
set_option maxRecDepth 100000 in
theorem rReadyE {v vh : Value} {l : List En} {had : List Int} {w : World} (h : SlE w v (evs l)) (hA : AllAt w l) (hs : ∀ y ∈ l, y.short 100) (hl : l.length ≤ 1000) (hh : SlI w vh had) (hhl : had.length ≤ 100000) {i : Nat} {x : En} (hx : l[i]? = some x) {r : Bool} (hr : r = readyB l had i x) : Calls Try.prog 23 #[v, vh, .int .i64 i] w fun e w' => e = .returned (.bool r) ∧ Below w.heap.size w w' := by
  have HSL := hid h
  have HSI := hid hh
  have HR := hid hr
  obtain ⟨b, o, cap, a, rfl, ha, hc, hb⟩ := h
  have hil := (List.getElem?_eq_some_iff.1 hx).1
  have hlm : (evs l).length = l.length := List.length_map ..
  rw [hlm] at ha hb HSL ⊢
  obtain rfl := ha (by omega)
  have hbw := hb (by omega)
  have HA := hid hA
  have HCC := hid hc
  have HX := hid hx
  have HXA := hid (hA x (List.mem_of_getElem? hx))
  have HXS := hid (hs x (List.mem_of_getElem? hx)).2.2
  have HC1 : Hid (w.rangeAt b (o + i * 19) x.e.list) := hid (hc i x.e (at_evs hx))
  obtain ⟨m, hm⟩ : ∃ m, m = l.length := ⟨_, rfl⟩
  rw [← hm] at hl hil HSL ⊢
  have HN := hid hm
  have HF := hid (fun (id : Int) (W : World) (hW : SlE W (.slice (some ⟨b, o, none⟩) m cap) (evs l)) => rFindE hW (by rw [← hm]; omega) id)
  have HHD := hid (fun (id : Int) (W : World) (hW : SlI W vh had) => rHasI hW hhl id)
  obtain ⟨dv, hdv⟩ : ∃ z, z = hasI had x.id := ⟨_, rfl⟩
  obtain ⟨fi, hfi⟩ : ∃ z, z = findN l x.id := ⟨_, rfl⟩
  obtain ⟨dn, hdn⟩ : ∃ z, z = x.e.dn := ⟨_, rfl⟩
  obtain ⟨xi, hxi⟩ : ∃ z, z = x.id := ⟨_, rfl⟩
  have HDV := hid hdv
  have HFI := hid hfi
  have HDN := hid hdn
  have HXI := hid hxi
  have tk1 : Hid (1 = 1) := hid rfl
  clear hm hA hc hx hr hs hdv hfi hdn hxi hh
  go_enter Try.func23, Try.ntmps23
  go_upto_region 2 with (first
    | ((with_reducible refine loadEl (T := 39) (x := ?lx1) (b := ?lb1) (o := ?lo1) uR iR x.e ?lg1 ?lp1 ?lxx1 ?lc1 ?_); (case lg1 => rfl); (case lp1 => rfl); (case lxx1 => rfl); (case lc1 => exact HC1.out))
    | ((with_reducible refine storeR (x := ?sx1) (y := ?sy1) (b := w.heap.size) (T := 39) x.e ?sg1 ?so1 ?sxx1 ?syy1 ?sc1 ?_); (case sg1 => rfl); (case so1 => rfl); (case sxx1 => rfl); (case syy1 => rfl); (case sc1 => exact ⟨_, heap_alloc_new w zeroEr, rfl⟩); intro W hO hU; have HO := hid hO; have HU := hid hU; clear hO hU)
    | fail)
  have HB : Hid (Below w.heap.size w W) := hid (((Below.refl _ w).alloc (Nat.le_refl _) _).trans (HU.out.below _ (by omega)))
  have HLT : Hid (w.heap.size < W.heap.size) := hid (by rw [HU.out.size]; simp)
  have e0 : W.cell? ⟨w.heap.size, 0, none⟩ = some (.int .i64 xi) := by rw [HXI.out]; exact HO.out.cell rfl
  have e16 : W.cell? ⟨w.heap.size, 16, none⟩ = some (.bool dn) := by rw [HDN.out]; exact HO.out.cell rfl
  have hHas := HHD.out xi W (HSI.out.on HB.out)
  rw [show hasI had xi = dv by rw [HXI.out, HDV.out]] at hHas
  have hFin := HF.out xi W (HSL.out.on HB.out)
  rw [show findN l xi = fi by rw [HXI.out, HFI.out]] at hFin
  rcases dn with _ | _
  · have HRF : Hid (r = false) := hid (by rw [HR.out]; unfold readyB waitB; rw [← HDN.out]; rfl)
    go_wp2_with (first
      | (go_at_call 26; refine hHas.mono ?_; rintro e w1 ⟨rfl, rfl⟩)
      | fail)
    go_ret
    exact ⟨by rw [HRF.out]; rfl, HB.out⟩
  rcases dv with _ | _
  rotate_left
  · have HRF : Hid (r = false) := hid (by rw [HR.out]; unfold readyB waitB; rw [← HDN.out, ← HDV.out]; rfl)
    go_wp2_with (first
      | (go_at_call 26; refine hHas.mono ?_; rintro e w1 ⟨rfl, rfl⟩)
      | fail)
    go_ret
    exact ⟨by rw [HRF.out]; rfl, HB.out⟩
  by_cases hfe : optI fi = (i : Int)
  rotate_left
  · have HRF : Hid (r = false) := hid (by rw [HR.out]; unfold readyB waitB; rw [← HFI.out, optI_ne hfe]; simp)
    have hfb : (optI fi == (i : Int)) = false := by simpa using hfe
    go_wp2_with (first
      | (go_at_call 26; refine hHas.mono ?_; rintro e w1 ⟨rfl, rfl⟩)
      | (go_at_call 27; refine hFin.mono ?_; rintro e w1 ⟨rfl, rfl⟩)
      | fail)
    go_ret
    exact ⟨by rw [HRF.out]; rfl, HB.out⟩
  have HWB : Hid (readyB l had i x = x.v.all (depB l had x.e.vt)) := hid (by unfold readyB waitB; rw [← HDN.out, ← HDV.out, ← HFI.out, optI_eq hfe]; simp)
  rw [hfe] at hFin
  have hii : ((i : Int) == (i : Int)) = true := by simp
  obtain ⟨vb, vo, vcap, va, hvv, hvn, hva, hvc, hvb⟩ := HXA.out.2.2
  obtain ⟨n, hn⟩ : ∃ n, n = x.v.length := ⟨_, rfl⟩
  rw [← hn] at hvv hva hvb
  obtain ⟨xt, hxt⟩ : ∃ z, z = x.e.vt := ⟨_, rfl⟩
  have e17 : W.cell? ⟨w.heap.size, 17, none⟩ = some (.int .i64 xt) := by rw [hxt]; exact HO.out.cell rfl
  have e18 : W.cell? ⟨w.heap.size, 18, none⟩ = some (.slice va n vcap) := by rw [← hvv]; exact HO.out.cell rfl
  have hnl : n ≤ 100 := by rw [hn]; exact HXS.out
  have HVN := hid hn
  have HXT := hid hxt
  have HVC := hid hvc
  have HFE := hid hfe
  clear hvv hvc hn hxt hvn hfe
  go_upto_region 5 with (first
      | (go_at_call 26; refine hHas.mono ?_; rintro e w1 ⟨rfl, rfl⟩)
      | (go_at_call 27; refine hFin.mono ?_; rintro e w1 ⟨rfl, rfl⟩)
      | fail)
  clear hHas hFin hii
  go_wp2_with fail
  go_loopw [9] (fun j wr => ∃ (k : Nat), k ≤ n ∧ j = .int .i64 k ∧ Hid (∀ c ∈ x.v.take k, depB l had x.e.vt c = true) ∧ Hid (Below w1.heap.size w1 wr)) (fun j _ => n - (RowKit.intOf j).toNat)
  case atStart => exact ⟨0, Nat.zero_le _, rfl, hid (by simp), hid (Below.refl _ _)⟩
  case round =>
    obtain ⟨k, hk, rfl, HNO, HBW⟩ := hrel
    have HB2 : Hid (Below w.heap.size w wr) := hid (HB.out.trans (HBW.out.mono HB.out.size))
    have f17 : wr.cell? ⟨w.heap.size, 17, none⟩ = some (.int .i64 xt) := (HBW.out.cell HLT.out).trans e17
    have f18 : wr.cell? ⟨w.heap.size, 18, none⟩ = some (.slice va n vcap) := (HBW.out.cell HLT.out).trans e18
    by_cases hlt : k < n
    · have hlti : ((k : Int) < n) := by omega
      obtain rfl := hva (by omega)
      have hvbw := hvb (by omega)
      obtain ⟨c, hcc⟩ : ∃ c, x.v[k]? = some c := ⟨x.v[k]'(by rw [← HVN.out]; exact hlt), List.getElem?_eq_getElem (by rw [← HVN.out]; exact hlt)⟩
      obtain ⟨ci, hci⟩ : ∃ z, z = c.i := ⟨_, rfl⟩
      have g0 : wr.cell? ⟨vb, vo + k * 7, none⟩ = some (.int .i64 ci) := (HB2.out.cell hvbw).trans (by rw [hci]; exact HVC.out k c hcc 0 _ rfl)
      have HCI := hid hci
      have HCC2 := hid hcc
      clear hci hcc
      obtain ⟨cd, hcd⟩ : ∃ z, z = hasI had ci := ⟨_, rfl⟩
      obtain ⟨fj, hfj⟩ : ∃ z, z = findN l ci := ⟨_, rfl⟩
      have HCD := hid hcd
      have HFJ := hid hfj
      have hHas := HHD.out ci wr (HSI.out.on HB2.out)
      rw [← hcd] at hHas
      have hFin := HF.out ci wr (HSL.out.on HB2.out)
      rw [← hfj] at hFin
      clear hcd hfj
      rcases fj with _ | j
      · have HD : Hid (depB l had x.e.vt c = false) := hid (dep_none (by rw [← HCI.out, HFJ.out]))
        have HRF : Hid (r = false) := hid (by rw [HR.out]; exact ready_no HCC2.out HD.out)
        change Calls _ _ _ _ (fun e w' => e = .returned (.int .i64 (-1)) ∧ w' = wr) at hFin
        go_wp2_with (first
          | (go_at_call 26; refine hHas.mono ?_; clear hHas; rintro e w2 ⟨rfl, rfl⟩)
          | (go_at_call 27; refine hFin.mono ?_; clear hFin; rintro e w2 ⟨rfl, rfl⟩)
          | fail)
        go_quiet (fail)
        go_wp2_with fail
        go_ret
        exact ⟨by rw [HRF.out]; rfl, Below.drewN' HB2.out _⟩
      · have hjl : j < m := by have := findN_lt HFJ.out.symm; rw [HN.out]; exact this
        obtain ⟨y, hy, _, _⟩ := findN_some HFJ.out.symm
        have HD : Hid (depB l had x.e.vt c = (y.e.dn && (decide (x.e.vt < y.e.vt) || hasI had c.i))) := hid (dep_some (by rw [← HCI.out]; exact HFJ.out.symm) hy)
        obtain ⟨yd, hyd⟩ : ∃ z, z = y.e.dn := ⟨_, rfl⟩
        obtain ⟨yt, hyt⟩ : ∃ z, z = y.e.vt := ⟨_, rfl⟩
        rw [← hyd, ← hyt, ← HCI.out, ← HCD.out] at HD
        have g16 : wr.cell? ⟨b, o + j * 19 + 16, none⟩ = some (.bool yd) := (HB2.out.cell hbw).trans (by rw [hyd]; exact HCC.out j y.e (at_evs hy) 16 _ rfl)
        have g17 : wr.cell? ⟨b, o + j * 19 + 17, none⟩ = some (.int .i64 yt) := (HB2.out.cell hbw).trans (by rw [hyt]; exact HCC.out j y.e (at_evs hy) 17 _ rfl)
        change Calls _ _ _ _ (fun e w' => e = .returned (.int .i64 (j : Int)) ∧ w' = wr) at hFin
        clear hyd hyt hy
        have hj0 : decide ((j : Int) < 0) = false := decide_eq_false (by omega)
        have hjm : ((j : Int) < m) := by omega
        rcases yd with _ | _
        · have HRF : Hid (r = false) := hid (by rw [HR.out]; exact ready_no HCC2.out (by rw [HD.out, Bool.false_and]))
          go_wp2_with (first
            | (go_at_call 26; refine hHas.mono ?_; clear hHas; rintro e w2 ⟨rfl, rfl⟩)
            | (go_at_call 27; refine hFin.mono ?_; clear hFin; rintro e w2 ⟨rfl, rfl⟩)
            | fail)
          go_quiet (fail)
          go_wp2_with fail
          go_ret
          exact ⟨by rw [HRF.out]; rfl, Below.drewN' HB2.out _⟩
        · by_cases ht : yt ≤ xt
          · have hq : decide (yt ≤ xt) = true := decide_eq_true ht
            have hd : decide (x.e.vt < yt) = false := decide_eq_false (by rw [← HXT.out]; omega)
            rcases cd with _ | _
            · have HRF : Hid (r = false) := hid (by rw [HR.out]; exact ready_no HCC2.out (by rw [HD.out, hd]; rfl))
              go_wp2_with (first
                | (go_at_call 26; refine hHas.mono ?_; clear hHas; rintro e w2 ⟨rfl, rfl⟩)
                | (go_at_call 27; refine hFin.mono ?_; clear hFin; rintro e w2 ⟨rfl, rfl⟩)
                | fail)
              go_quiet (fail)
              go_wp2_with fail
              go_ret
              exact ⟨by rw [HRF.out]; rfl, Below.drewN' HB2.out _⟩
            · have HDT : Hid (depB l had x.e.vt c = true) := hid (by rw [HD.out, hd]; rfl)
              go_wp2_with (first
                | (go_at_call 26; refine hHas.mono ?_; clear hHas; rintro e w2 ⟨rfl, rfl⟩)
                | (go_at_call 27; refine hFin.mono ?_; clear hFin; rintro e w2 ⟨rfl, rfl⟩)
                | fail)
              go_quiet (fail)
              go_wp2_with fail
              go_roundw
              case rel => exact ⟨k + 1, by omega, by go_num, hid (dep_next HCC2.out HNO.out HDT.out), hid (Below.drewN' HBW.out _)⟩
              case measure => first | omega | (simp [RowKit.intOf]; omega)
          · have hq : decide (yt ≤ xt) = false := decide_eq_false ht
            have HDT : Hid (depB l had x.e.vt c = true) := hid (by rw [HD.out, decide_eq_true (show x.e.vt < yt by rw [← HXT.out]; omega)]; rfl)
            rcases cd with _ | _
            · go_wp2_with (first
                | (go_at_call 26; refine hHas.mono ?_; clear hHas; rintro e w2 ⟨rfl, rfl⟩)
                | (go_at_call 27; refine hFin.mono ?_; clear hFin; rintro e w2 ⟨rfl, rfl⟩)
                | fail)
              go_quiet (fail)
              go_wp2_with fail
              go_roundw
              case rel => exact ⟨k + 1, by omega, by go_num, hid (dep_next HCC2.out HNO.out HDT.out), hid (Below.drewN' HBW.out _)⟩
              case measure => first | omega | (simp [RowKit.intOf]; omega)
            · go_wp2_with (first
                | (go_at_call 26; refine hHas.mono ?_; clear hHas; rintro e w2 ⟨rfl, rfl⟩)
                | (go_at_call 27; refine hFin.mono ?_; clear hFin; rintro e w2 ⟨rfl, rfl⟩)
                | fail)
              go_quiet (fail)
              go_wp2_with fail
              go_roundw
              case rel => exact ⟨k + 1, by omega, by go_num, hid (dep_next HCC2.out HNO.out HDT.out), hid (Below.drewN' HBW.out _)⟩
              case measure => first | omega | (simp [RowKit.intOf]; omega)
    · have hlti : ¬ ((k : Int) < n) := by omega
      have hkn : k = n := by omega
      have HRT : Hid (r = true) := hid (by rw [HR.out, HWB.out, List.all_eq_true]; exact fun c hc => HNO.out c (by rw [hkn, HVN.out, List.take_length]; exact hc))
      go_wp2_with fail
      go_ret
      exact ⟨by rw [HRT.out]; rfl, HB2.out⟩
end Go.Proofs.Ytmggggijamligaa
namespace Go.Proofs.Ytmggggijamligaa
set_option linter.unusedVariables false
open Go.RowKit
open Go.Lib (hid)
theorem better_some {l : List En} {x y : En} {j : Nat} (hy : l[j]? = some y) : betterB l x (some j) = decide (x.e.vt < y.e.vt) := by
  unfold betterB
  show (match l[j]? with | none => false | some y => _) = _
  rw [hy]
theorem next_keep {l : List En} {had : List Int} {k : Nat} {x : En} {o : Option Nat} (hx : l[k]? = some x) (ho : o = nextUp l had k) (h : (readyB l had k x && betterB l x o) = false) : o = nextUp l had (k + 1) := by
  rw [nextUp_succ hx, ← ho, h]; rfl
theorem next_take {l : List En} {had : List Int} {k : Nat} {x : En} {o : Option Nat} (hx : l[k]? = some x) (ho : o = nextUp l had k) (h : (readyB l had k x && betterB l x o) = true) : some k = nextUp l had (k + 1) := by
  rw [nextUp_succ hx, ← ho, h]; rfl
set_option maxHeartbeats 4000000 in
set_option maxRecDepth 100000 in
theorem rNextE {v vh : Value} {l : List En} {had : List Int} {w : World} (h : SlE w v (evs l)) (hA : AllAt w l) (hs : ∀ y ∈ l, y.short 100) (hl : l.length ≤ 1000) (hh : SlI w vh had) (hhl : had.length ≤ 100000) {i : Option Nat} (hi : i = nextN l had) : Calls Try.prog 9 #[v, vh] w fun e w' => e = .returned (.int .i64 (optI i)) ∧ Below w.heap.size w w' := by
  have HRD : Hid (∀ (W : World) (k : Nat) (x : En) (r : Bool), Below w.heap.size w W → l[k]? = some x → r = readyB l had k x → Calls Try.prog 23 #[v, vh, .int .i64 k] W fun e w' => e = .returned (.bool r) ∧ Below W.heap.size W w') := hid (fun W k x r hW hx hr => rReadyE (h.on hW) (hA.on hW) hs hl (hh.on hW) hhl hx hr)
  obtain ⟨b, o, cap, a, rfl, ha, hc, hb⟩ := h
  have hlm : (evs l).length = l.length := List.length_map ..
  rw [hlm] at ha hb HRD ⊢
  have HCC := hid hc
  have HI := hid hi
  obtain ⟨m, hm⟩ : ∃ m, m = l.length := ⟨_, rfl⟩
  rw [← hm] at hl ha hb HRD ⊢
  have HN := hid hm
  clear hm hA hc hs hh hi hlm
  go_enter Try.func9, Try.ntmps9
  go_wp2_with fail
  go_loopw [5, 6] (fun s5 s6 wr => ∃ (k : Nat) (o : Option Nat), k ≤ m ∧ s6 = .int .i64 k ∧ s5 = .int .i64 (optI o) ∧ Hid (o = nextUp l had k) ∧ Hid (Below w.heap.size w wr)) (fun _ s6 _ => m - (RowKit.intOf s6).toNat)
  case atStart => exact ⟨0, none, Nat.zero_le _, rfl, rfl, hid rfl, hid (Below.refl _ _)⟩
  case round =>
    obtain ⟨k, bo, hk, rfl, rfl, HBO, HB⟩ := hrel
    by_cases hlt : k < m
    · have hlti : ((k : Int) < m) := by omega
      obtain rfl := ha (by omega)
      have hbw := hb (by omega)
      obtain ⟨x, hx⟩ : ∃ x, l[k]? = some x := ⟨l[k]'(by rw [← HN.out]; exact hlt), List.getElem?_eq_getElem (by rw [← HN.out]; exact hlt)⟩
      obtain ⟨rd, hrd⟩ : ∃ z, z = readyB l had k x := ⟨_, rfl⟩
      have HRT := hid hrd
      have HX := hid hx
      have hR := HRD.out wr k x rd HB.out hx hrd
      clear hrd
      obtain ⟨xt, hxt⟩ : ∃ z, z = x.e.vt := ⟨_, rfl⟩
      have HXT := hid hxt
      have HGX : Hid (∀ W, Below w.heap.size w W → W.cell? ⟨b, o + k * 19 + 17, none⟩ = some (.int .i64 xt)) := hid (fun W hW => (hW.cell hbw).trans (by rw [hxt]; exact HCC.out k x.e (at_evs hx) 17 _ rfl))
      clear hx hxt
      rcases rd with _ | _
      · have HNO : Hid ((readyB l had k x && betterB l x bo) = false) := hid (by rw [← HRT.out]; rfl)
        go_upto_region 6 with (first
          | (go_at_call 23; refine hR.mono ?_; clear hR; rintro e w1 ⟨rfl, hB1⟩; have HB1 := hid (HB.out.trans (hB1.mono HB.out.size)); clear hB1)
          | fail)
        go_quiet (fail)
        go_wp2_with fail
        go_roundw
        case rel => exact ⟨k + 1, bo, by omega, by go_num, rfl, hid (next_keep HX.out HBO.out HNO.out), hid (Below.drewN' HB1.out _)⟩
        case measure => first | omega | (simp [RowKit.intOf]; omega)
      · rcases bo with _ | j
        · have HYES : Hid ((readyB l had k x && betterB l x none) = true) := hid (by rw [← HRT.out]; rfl)
          have hn0 : optI none = -1 := rfl
          rw [hn0]
          go_upto_region 6 with (first
            | (go_at_call 23; refine hR.mono ?_; clear hR; rintro e w1 ⟨rfl, hB1⟩; have HB1 := hid (HB.out.trans (hB1.mono HB.out.size)); clear hB1)
            | fail)
          have g1 := HGX.out w1 HB1.out
          go_quiet (fail)
          go_wp2_with fail
          go_roundw
          case rel => exact ⟨k + 1, some k, by omega, by go_num, rfl, hid (next_take HX.out HBO.out HYES.out), hid (Below.drewN' HB1.out _)⟩
          case measure => first | omega | (simp [RowKit.intOf]; omega)
        · have hjk := (nextUp_lt HBO.out.symm).1
          obtain ⟨y, hy, _⟩ := (nextUp_lt HBO.out.symm).2
          have hjm : ((j : Int) < m) := by omega
          have hkm : ((k : Int) < m) := by omega
          have hj0 : decide ((j : Int) < 0) = false := decide_eq_false (by omega)
          obtain ⟨yt, hyt⟩ : ∃ z, z = y.e.vt := ⟨_, rfl⟩
          have HGY : Hid (∀ W, Below w.heap.size w W → W.cell? ⟨b, o + j * 19 + 17, none⟩ = some (.int .i64 yt)) := hid (fun W hW => (hW.cell hbw).trans (by rw [hyt]; exact HCC.out j y.e (at_evs hy) 17 _ rfl))
          have HBT : Hid (betterB l x (some j) = decide (xt < yt)) := hid (by rw [HXT.out, hyt]; exact better_some hy)
          clear hy hyt
          have hn1 : optI (some j) = (j : Int) := rfl
          rw [hn1]
          go_upto_region 6 with (first
            | (go_at_call 23; refine hR.mono ?_; clear hR; rintro e w1 ⟨rfl, hB1⟩; have HB1 := hid (HB.out.trans (hB1.mono HB.out.size)); clear hB1)
            | fail)
          have g1 := HGX.out w1 HB1.out
          have g2 := HGY.out w1 HB1.out
          by_cases ht : xt < yt
          · have HYES : Hid ((readyB l had k x && betterB l x (some j)) = true) := hid (by rw [← HRT.out, HBT.out, decide_eq_true ht]; rfl)
            go_quiet (fail)
            go_wp2_with fail
            go_roundw
            case rel => exact ⟨k + 1, some k, by omega, by go_num, rfl, hid (next_take HX.out HBO.out HYES.out), hid (Below.drewN' HB1.out _)⟩
            case measure => first | omega | (simp [RowKit.intOf]; omega)
          · have hq : decide (xt < yt) = false := decide_eq_false ht
            have HNO : Hid ((readyB l had k x && betterB l x (some j)) = false) := hid (by rw [← HRT.out, HBT.out, hq]; rfl)
            go_quiet (fail)
            go_wp2_with fail
            go_roundw
            case rel => exact ⟨k + 1, some j, by omega, by go_num, rfl, hid (next_keep HX.out HBO.out HNO.out), hid (Below.drewN' HB1.out _)⟩
            case measure => first | omega | (simp [RowKit.intOf]; omega)
    · have hlti : ¬ ((k : Int) < m) := by omega
      have hkn : k = m := by omega
      have HIO : Hid (bo = i) := hid (by rw [HBO.out, HI.out, hkn, HN.out]; rfl)
      go_wp2_with fail
      go_ret
      exact ⟨by rw [← HIO.out]; rfl, HB.out⟩
end Go.Proofs.Ytmggggijamligaa
namespace Go.Proofs.Ytmggggijamligaa
set_option linter.unusedVariables false
open Go.RowKit
open Go.Lib (hid)
def SlS (w : World) (v : Value) (l : List Int) : Prop := SlI w v l ∧ (v = .slice none 0 0 ∨ ∃ ad c, v = .slice (some ad) l.length c)
theorem SlS.on {w w' : World} {v : Value} {l : List Int} (h : SlS w v l) (hb : Below w.heap.size w w') : SlS w' v l := ⟨h.1.on hb, h.2⟩
theorem nums_len (l : List Int) : (nums l).length = l.length := by unfold nums; simp
theorem nums_append (a b : List Int) : nums (a ++ b) = nums a ++ nums b := by unfold nums; simp
theorem nums_one (l : List Int) : ∀ u ∈ nums l, u.oneCell' = true := fun u hu => by
  unfold nums at hu
  obtain ⟨x, _, rfl⟩ := List.mem_map.1 hu
  rfl
theorem OwnI.made (w : World) : OwnI (w.alloc (.cells #[] 3)) w.heap.size (.slice (Option.some ⟨w.heap.size, 0, none⟩) 0 0) [] :=
  World.ownsRow_made w #[] 0 (Nat.le_refl _) (by unfold maxLen; omega) rfl
theorem OwnI.asSlice {w : World} {B : Nat} {v : Value} {l : List Int} (h : OwnI w B v l) : ∃ (g : Option Addr) (cap n : Nat), v = .slice g n cap ∧ n = l.length := by
  rcases h.2 with ⟨rfl, h0⟩ | ⟨g, cap, cur, rfl, _⟩
  · exact ⟨none, 0, 0, rfl, h0.symm⟩
  · exact ⟨_, cap, _, rfl, rfl⟩
theorem OwnI.slS {w : World} {B : Nat} {v : Value} {l : List Int} (h : OwnI w B v l) : SlS w v l := by
  refine ⟨h.sl, ?_⟩
  rcases h.2 with ⟨rfl, h0⟩ | ⟨g, cap, cur, rfl, _⟩
  · exact .inl rfl
  · exact .inr ⟨_, cap, rfl⟩
theorem OwnI.on {w w' : World} {B : Nat} {v : Value} {l : List Int} (h : OwnI w B v l) (hb : Below w.heap.size w w') : OwnI w' B v l := own_below h hb fun k hk => (h.lt k hk).2
theorem wpList_append_ii {w : World} {ops : Array Oper} {rest : List Oper} {o : Oper} {a : Act} {Q : Exit → Act → World → Prop} (hgd : o.guard = none) (s x : Operand) (ho : o.op = .call { callee := .builtin .append, args := #[s, x], argTypes := #[23, 23] })
    (B : Nat) (v : Value) (ps : List Int) (hs : a.eval s = v) (hown : OwnI w B v ps) (v2 : Value) (qs : List Int) (hx : a.eval x = v2) (h2 : SlS w v2 qs) (hlen : ps.length + qs.length ≤ 1000000) (hbase : B ≤ w.heap.size)
    (h : ∀ v' w', OwnI w' B v' (ps ++ qs) → w.grownBy w' v.ownBlock → wpList Try.prog ops Q rest (a.put o.dst v') w') : wpList Try.prog ops Q (o :: rest) a w := by
  obtain ⟨i0, hi, hz0, hz1, hz2⟩ := info_parts Try.infoI
  obtain ⟨⟨b, off, cap, a2, e, ha, hc, hl⟩, hn⟩ := h2
  rcases hn with rfl | ⟨ad, c, rfl⟩
  · have h0 : qs = [] := by injection e with e1 e2 e3; exact List.length_eq_zero_iff.1 e2.symm
    subst h0
    refine wpList_append_own_none hgd s x 23 ho B 3 i0 1 Try.underlying23 hi v ps.length (nums ps) hs hown hx ?_
    exact h v w (by rw [List.append_nil]; exact hown) (grownRefl _ _)
  · injection e with e1 e2 e3
    refine wpList_append_own _ hgd s x 23 ho B 3 i0 _ 1 8 Try.underlying23 hi hz0 hz1 hz2 rfl (by decide) v ps.length (nums ps) hs hown ad qs.length c (nums qs) hx (by rw [nums_len]; omega) (fun j u hu => ?_) (nums_one qs) (by unfold maxLen; omega) (by omega) hbase ?_
    · have hj := (List.getElem?_eq_some_iff.1 hu).1
      rw [nums_len] at hj
      have had := ha (by omega)
      rw [← e1] at had
      cases had
      have hx : qs[j]? = some qs[j] := List.getElem?_eq_getElem hj
      unfold nums at hu
      rw [List.getElem?_map, hx] at hu
      obtain rfl := Option.some.inj hu
      rw [show (⟨b, off, none⟩ : Addr).add j = ⟨b, off + j, none⟩ from by unfold Addr.add; split <;> simp_all]
      exact hc j _ hx
    · intro v' w' ho' hg _
      refine h v' w' ?_ hg
      show World.ownsRow _ _ _ _ _ _ _
      rw [nums_append, List.length_append]; exact ho'
end Go.Proofs.Ytmggggijamligaa
