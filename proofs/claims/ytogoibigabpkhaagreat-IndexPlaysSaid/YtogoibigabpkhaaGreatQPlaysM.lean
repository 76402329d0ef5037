import Derived.Test.YtogoibigabpkhaaGreatQTellsM
import Derived.Test.YtogoibigabpkhaaGreatQNilM
import Derived.Test.YtogoibigabpkhaaGreatQRNewM
import Derived.Test.YtogoibigabpkhaaGreatQAllM
/- The law's plays. -/
namespace Go.Proofs.YtogoibigabpkhaaGreat
set_option linter.unusedVariables false
open Go.RowKit
open Go.Lib (hid)

theorem rh_consW {P : Program} {md : Region.Mode} {S : World → Prop} {ops : Array Oper} {i : Nat} {o : Oper} {rs : List Nat} {fuel : Nat} {listed listed' : Array Bool} {a : Act} {w : World} {Q : Exit → Act → World → Prop}
    (hi : ops[i]? = some o) (hl : listed.setIfInBounds i true = listed') (hg : Region.wanted o (yielded ops a.tmps) = true) (h : ∀ K' : Act → World → Prop, Shut (∀ a w, S w → wpAnyH P md ops Q S fuel listed' a w → K' a w) → Oper.wp P o a w K' Q) (hs : AllReadyH P md ops Q S fuel listed a w rs) : AllReadyH P md ops Q S fuel listed a w (i :: rs) := by
  subst hl
  refine AllReadyH.cons hi (fun K' hK => ?_) hs
  rw [if_pos hg]
  exact h K' (fun a w h1 h2 => hK.out a w h1 (fun _ => h2))
abbrev cP16 : C7 := ⟨16, 1, 0, 16, 0, 0, 0⟩
theorem newR_three (nd c : Int) (l : List En) : newR nd c l = 0 ∨ newR nd c l = 1 ∨ newR nd c l = 6 := by
  unfold newR; repeat' split
  all_goals simp
theorem newR_ok {nd c : Int} {l : List En} (h : newR nd c l = 0) : 0 ≤ c ∧ c ≤ 65535 := by
  unfold newR inB at h
  split at h
  · rename_i h1
    have := h1.2.1
    simp only [Bool.and_eq_true, decide_eq_true_eq] at this
    omega
  · cases h
theorem seeN_bd {c : Int} (h : 0 ≤ c ∧ c ≤ 65535) (l : List En) : 0 ≤ seeN c l ∧ seeN c l ≤ 65535 := by
  induction l using snocRec with
  | nil => exact h
  | snoc l y ih => rw [seeN_snoc]; exact see_bd (see_bd ih)
theorem keptG_all {w : World} {xs : List En} (h : AllAt w xs) : AllAt w (keptG En.id xs) := fun y hy => h y (look_key En.id xs _ y ((kept_mem En.id xs y).1 hy)).2
theorem keptG_short {xs : List En} {m : Nat} (h : ∀ y ∈ xs, y.short m) : ∀ y ∈ keptG En.id xs, y.short m := fun y hy => h y (look_key En.id xs _ y ((kept_mem En.id xs y).1 hy)).2
theorem sameEn_self (y : En) : sameEn y y = true := sameE_self _ _ _ _
set_option maxRecDepth 100000 in
theorem run_buildG (w : World) : (Instr.build 44 #[(0, cP16.v)]).run Tryz.prog w = .ok (.agg (newE cP16).arr) w := by kernel_rfl
theorem wpList_buildG {ops : Array Oper} {rest : List Oper} {op : Oper} {a : Act} {w : World} {Q : Exit → Act → World → Prop} {x : Operand} (hgd : Region.wanted op (yielded ops a.tmps) = true) (ho : op.op = .build 44 #[(0, x)]) (hx : a.eval x = .agg #[.int .i64 16, .int .i64 1, .int .i64 0, .int .i64 16, .int .i64 0, .int .i64 0, .int .i64 0])
    (h : wpList Tryz.prog ops Q rest (a.put op.dst (.agg (newE cP16).arr)) w) : wpList Tryz.prog ops Q (op :: rest) a w := by
  refine BigFrame.wpList_want hgd fun _ hK' => ?_
  unfold Oper.wp execOp
  have hb := run_buildG w
  simp only [ho, List.map_toArray, List.map_cons, List.map_nil, hx, Sem.run_bind]
  rw [show (Instr.build 44 #[(0, .agg #[.int .i64 16, .int .i64 1, .int .i64 0, .int .i64 16, .int .i64 0, .int .i64 0, .int .i64 0])]).run Tryz.prog w = .ok (.agg (newE cP16).arr) w from hb]
  simp only [Result.andThen_ok]
  exact hK' _ _ h
theorem Pv.lt {w : World} {x b b2 p N : Nat} {nd c c' : Int} {xs : List En} (h : Pv w x b b2 p N nd c c' xs) : ∀ k, TP x b b2 p k → k < w.heap.size := by
  obtain ⟨n, ids, hI, hn, hi, v, u, hR⟩ := h.ix
  have h1 := hI.lt
  have h2 := hR.lt
  rintro k ((rfl | rfl | rfl) | rfl) <;> omega
theorem cStepP {w : World} {x b b2 p N : Nat} {nd c : Int} {xs : List En} {a : Ac} (h : Pv w x b b2 p N nd c c xs) (hN : N ≤ 5000) (ha : a.at w) (hsh : a.y.short 80) (hcs : a.cs.length ≤ 40) :
    Calls Tryz.prog 10 #[ptr x, ptr p, .agg a.arr] w fun e w' => ∃ c1 xs', e = .returned (.bool true) ∧ Pv w' x b b2 p (N + 40) nd c1 c1 xs' ∧ Tch (TP x b b2 p) w w' := by
  have h256 := ha.2.2.1
  rcases (by omega : a.k % 6 = 0 ∨ a.k % 6 = 1 ∨ a.k % 6 = 2 ∨ a.k % 6 = 3 ∨ a.k % 6 = 4 ∨ a.k % 6 = 5) with hk | hk | hk | hk | hk | hk
  · exact (cStep0 h hk h256).mono fun e w' ⟨h1, h2, h3⟩ => ⟨_, _, h1, h2.mono (by omega), h3⟩
  · exact (cStep1 h hk h256).mono fun e w' ⟨h1, h2, h3⟩ => ⟨_, _, h1, h2.mono (by omega), h3⟩
  · exact (cStep2 h hk h256 hN ha hcs).mono fun e w' ⟨h1, ⟨xs', h2, _⟩, h3⟩ => ⟨_, _, h1, h2, h3⟩
  · refine (cStep3 h hk h256 hN ha hsh).mono ?_
    rintro e w' ⟨h1, ⟨c1, c2, xs', h2, h4⟩, h3⟩
    rcases h4 with ⟨_, rfl, rfl⟩ | ⟨_, _, rfl, rfl⟩
    · exact ⟨_, _, h1, h2.mono (by omega), h3⟩
    · exact ⟨_, _, h1, h2.mono (by omega), h3⟩
  · refine (cStep4 h hk h256 hN ha hsh).mono ?_
    rintro e w' ⟨h1, ⟨c1, c2, xs', h2, h4⟩, h3⟩
    rcases h4 with ⟨_, rfl, rfl⟩ | ⟨_, _, rfl, rfl⟩
    · exact ⟨_, _, h1, h2.mono (by omega), h3⟩
    · exact ⟨_, _, h1, h2.mono (by omega), h3⟩
  · exact (cStep5 h hk h256 hN).mono fun e w' ⟨h1, h2, h3⟩ => ⟨_, _, h1, h2.mono (by omega), h3⟩
theorem sl_n {w : World} {s : Sv} {cs : List C7} (h : Sl w s.v cs) : s.n = cs.length := by
  obtain ⟨b, o, cap, a, hv, _⟩ := h
  injection hv
set_option maxHeartbeats 16000000 in
set_option maxRecDepth 100000 in
theorem cIPlays {w : World} {nd c : Int} {vl va : Value} {l : List En} {acs : List Ac} (hl : SlE w vl (evs l)) (hA : AllAt w l) (hll : l.length ≤ 9223372036854775807) (hac : SlAc w va acs) (hAt : ∀ a ∈ acs, a.at w) (hal : acs.length ≤ 9223372036854775807) :
    Calls Tryz.prog 3 #[.agg #[.int .i64 nd, .int .i64 c], vl, va] w fun e w' => e = .returned (.bool true) ∧ Below w.heap.size w w' := by
  have HIA := hid cIAlive
  have hb : Below w.heap.size w (w.alloc (.cells #[.int .i64 nd, .int .i64 c] 22)) := (Below.refl _ w).alloc (Nat.le_refl _) _
  have ho : (w.alloc (.cells #[.int .i64 nd, .int .i64 c] 22)).heap[w.heap.size]? = some (.cells #[.int .i64 nd, .int .i64 c] 22) := heap_alloc_new w _
  have hz : (w.alloc (.cells #[.int .i64 nd, .int .i64 c] 22)).heap.size = w.heap.size + 1 := by simp
  obtain ⟨ab, ao, acap, aa, rfl, haa, hac1, hab⟩ := hac
  obtain ⟨m, hm⟩ : ∃ m, m = acs.length := ⟨_, rfl⟩
  rw [← hm] at haa hab hal ⊢
  have hF := cFitsL (hl.on hb) (hA.on hb) hll
  have HSE := hid hl
  have HAA := hid hA
  have HAT := hid hAt
  have HB := hid hb
  have HO := hid ho
  have HZ := hid hz
  have HM := hid hm
  have HAC := hid hac1
  have HAB := hid hab
  have HAP := hid haa
  clear hl hA hac1 hAt hb ho hz hm hab haa
  go_enter Tryz.func3, Tryz.ntmps3
  go_wp2_with fail
  go_at_call 5
  refine hF.mono ?_
  rintro e w1 ⟨hr, hB1⟩
  have HB1 := hid (HB.out.trans (hB1.mono HB.out.size))
  have HO1 := hid (heapB HO.out hB1 (by have := HZ.out; omega))
  clear hB1 hF HB HO
  have hal0 : (0 : Int) ≤ m := by omega
  rcases hr with rfl | ⟨rfl, h40, hsh⟩
  · go_wp2_with fail
    go_at_call 6
    refine (HIA.out w1).mono ?_
    rintro e wz ⟨rfl, hBz⟩
    have HBz := hid (HB1.out.trans (hBz.mono HB1.out.size))
    clear hBz
    go_wp2_with fail
    go_ret
    exact ⟨rfl, HBz.out⟩
  by_cases ha40 : 40 < m
  · have hi40 : ((40 : Int) < m) := by omega
    go_wp2_with fail
    go_at_call 6
    refine (HIA.out w1).mono ?_
    rintro e wz ⟨rfl, hBz⟩
    have HBz := hid (HB1.out.trans (hBz.mono HB1.out.size))
    clear hBz
    go_wp2_with fail
    go_ret
    exact ⟨rfl, HBz.out⟩
  have hi40 : ¬ ((40 : Int) < m) := by omega
  have HSH := hid hsh
  have HL40 := hid h40
  have HA40 := hid ha40
  clear hsh h40
  have HO1' := hid (show w1.heap[w.heap.size]? = some (.cells #[.int .i64 nd, .int .i64 c] 22) from HO1.out)
  have k0 : w1.cell? ⟨w.heap.size, 0, none⟩ = some (.int .i64 nd) := (cellAt' HO1.out 0).trans rfl
  have k1 : w1.cell? ⟨w.heap.size, 1, none⟩ = some (.int .i64 c) := (cellAt' HO1.out 1).trans rfl
  go_wp2_with fail
  clear ha40
  obtain ⟨r, hr⟩ : ∃ r, r = newR nd c l := ⟨_, rfl⟩
  have hN := cINew (HSE.out.on HB1.out) (HAA.out.on HB1.out) (fun y hy => short_mono (HSH.out y hy) (by decide)) (by have := HL40.out; omega) nd c hr
  have HRR := hid hr
  clear hr
  go_at_call 7
  refine hN.mono ?_
  rintro e w2 ⟨hB2, hif⟩
  have HB2 := hid (HB1.out.trans (hB2.mono HB1.out.size))
  have HO2 := hid (heapB HO1.out hB2 (Array.getElem?_eq_some_iff.1 HO1.out).1)
  have HLO := hid HB1.out.size
  clear hB2 hN k0 k1
  rcases (by rw [HRR.out]; exact newR_three nd c l : r = 0 ∨ r = 1 ∨ r = 6) with rfl | rfl | rfl
  · rw [if_pos rfl] at hif
    obtain ⟨x, b, b2, rfl, hI, hx, hb, hb2⟩ := hif
    have HI := hid hI
    have HLX := hid (And.intro hx (And.intro hb hb2))
    clear hI hx hb hb2
    go_wp2_with fail
    have HFA : Hid (∀ W, Below w2.heap.size w2 W → W.cell? ⟨w.heap.size, 0, none⟩ = some (.int .i64 nd) ∧ W.cell? ⟨w.heap.size, 1, none⟩ = some (.int .i64 c)) := hid fun W hW => by
      have h0 := heapB HO2.out hW (Array.getElem?_eq_some_iff.1 HO2.out).1
      exact ⟨(cellAt' h0 0).trans rfl, (cellAt' h0 1).trans rfl⟩
    refine rh_start (S := fun W => Below w2.heap.size w2 W) (n := 12) (listed := #[false, false, false, false, false, false, false, false, false, false, false, false]) (by kernel_rfl) rfl rfl ?_
    have HS0 : Hid (Below w2.heap.size w2 w2.drew) := hid (belowDrew (Below.refl _ _))
    generalize World.drew w2 = wd at HS0 ⊢
    refine rh_takeS (i := 0) (o := ?o1) (v := ?v1) (listed' := ?l1) (a' := ?a1) ?hi1 (by kernel_rfl) (by kernel_rfl) (by kernel_rfl) ?hq1 ?hl1 ?hw1 ?hv1 ?ha1 HS0.out ?hh1
    case hi1 => (simp only [List.getElem?_toArray, List.getElem?_cons_zero]; try rfl)
    case hq1 => exact fun _ _ _ h => h
    case hl1 => (simp only [List.setIfInBounds_toArray, List.set_cons_zero]; try rfl)
    case hw1 => rfl
    case hv1 =>
      intro W hW
      obtain ⟨k0, k1⟩ := HFA.out W hW
      go_simp
      try with_reducible rfl
    case ha1 => (simp only [Act.put, List.setIfInBounds_toArray, List.set_cons_succ, List.set_cons_zero]; try rfl)
    refine rh_takeS (i := 1) (o := ?o2) (v := ?v2) (listed' := ?l2) (a' := ?a2) ?hi2 (by kernel_rfl) (by kernel_rfl) (by kernel_rfl) ?hq2 ?hl2 ?hw2 ?hv2 ?ha2 HS0.out ?hh2
    case hi2 => (simp only [List.getElem?_toArray, List.getElem?_cons_succ, List.getElem?_cons_zero]; try rfl)
    case hq2 => exact fun _ _ _ h => h
    case hl2 => (simp only [List.setIfInBounds_toArray, List.set_cons_succ, List.set_cons_zero]; try rfl)
    case hw2 => rfl
    case hv2 =>
      intro W hW
      obtain ⟨k0, k1⟩ := HFA.out W hW
      go_simp
      try with_reducible rfl
    case ha2 => (simp only [Act.put, List.setIfInBounds_toArray, List.set_cons_succ, List.set_cons_zero]; try rfl)
    refine rh_takeS (i := 2) (o := ?o3) (v := ?v3) (listed' := ?l3) (a' := ?a3) ?hi3 (by kernel_rfl) (by kernel_rfl) (by kernel_rfl) ?hq3 ?hl3 ?hw3 ?hv3 ?ha3 HS0.out ?hh3
    case hi3 => (simp only [List.getElem?_toArray, List.getElem?_cons_succ, List.getElem?_cons_zero]; try rfl)
    case hq3 => exact fun _ _ _ h => h
    case hl3 => (simp only [List.setIfInBounds_toArray, List.set_cons_succ, List.set_cons_zero]; try rfl)
    case hw3 => rfl
    case hv3 =>
      intro W hW
      obtain ⟨k0, k1⟩ := HFA.out W hW
      go_simp
      try with_reducible rfl
    case ha3 => (simp only [Act.put, List.setIfInBounds_toArray, List.set_cons_succ, List.set_cons_zero]; try rfl)
    refine rh_takeS (i := 3) (o := ?o4) (v := ?v4) (listed' := ?l4) (a' := ?a4) ?hi4 (by kernel_rfl) (by kernel_rfl) (by kernel_rfl) ?hq4 ?hl4 ?hw4 ?hv4 ?ha4 HS0.out ?hh4
    case hi4 => (simp only [List.getElem?_toArray, List.getElem?_cons_succ, List.getElem?_cons_zero]; try rfl)
    case hq4 => exact fun _ _ _ h => h
    case hl4 => (simp only [List.setIfInBounds_toArray, List.set_cons_succ, List.set_cons_zero]; try rfl)
    case hw4 => rfl
    case hv4 =>
      intro W hW
      obtain ⟨k0, k1⟩ := HFA.out W hW
      go_simp
      try with_reducible rfl
    case ha4 => (simp only [Act.put, List.setIfInBounds_toArray, List.set_cons_succ, List.set_cons_zero]; try rfl)
    refine rh_takeS (i := 4) (o := ?o5) (v := ?v5) (listed' := ?l5) (a' := ?a5) ?hi5 (by kernel_rfl) (by kernel_rfl) (by kernel_rfl) ?hq5 ?hl5 ?hw5 ?hv5 ?ha5 HS0.out ?hh5
    case hi5 => (simp only [List.getElem?_toArray, List.getElem?_cons_succ, List.getElem?_cons_zero]; try rfl)
    case hq5 => exact fun _ _ _ h => h
    case hl5 => (simp only [List.setIfInBounds_toArray, List.set_cons_succ, List.set_cons_zero]; try rfl)
    case hw5 => rfl
    case hv5 =>
      intro W hW
      obtain ⟨k0, k1⟩ := HFA.out W hW
      go_simp
      try with_reducible rfl
    case ha5 => (simp only [Act.put, List.setIfInBounds_toArray, List.set_cons_succ, List.set_cons_zero]; try rfl)
    refine wpAnyH_ready (rs := [5]) (by kernel_rfl) (by simp) ?_
    refine rh_cons (i := 5) (o := ?o6) (listed' := ?l6) ?hi6 ?hl6 ?hg6 ?hh6 ?hs6
    case hi6 => (simp only [List.getElem?_toArray, List.getElem?_cons_succ, List.getElem?_cons_zero]; try rfl)
    case hl6 => (simp only [List.setIfInBounds_toArray, List.set_cons_succ, List.set_cons_zero]; try rfl)
    case hg6 => rfl
    case hs6 => exact AllReadyH.nil
    intro K hK
    go_simp
    refine (rOf ((HSE.out.on HB2.out).on HS0.out) (by have := HL40.out; simp; omega)).mono ?_
    rintro z wa ⟨va, rfl, hv, hB⟩
    have HSa := hid (HS0.out.trans (hB.mono HS0.out.size))
    have HVa := hid (OwnG.slG kE hv)
    clear hv hB
    refine hK.out _ _ HSa.out ?_
    clear hK K
    refine wpAnyH_ready (rs := [6]) (by kernel_rfl) (by simp) ?_
    refine rh_cons (i := 6) (o := ?o7) (listed' := ?l7) ?hi7 ?hl7 ?hg7 ?hh7 ?hs7
    case hi7 => (simp only [List.getElem?_toArray, List.getElem?_cons_succ, List.getElem?_cons_zero]; try rfl)
    case hl7 => (simp only [List.setIfInBounds_toArray, List.set_cons_succ, List.set_cons_zero]; try rfl)
    case hg7 => rfl
    case hs7 => exact AllReadyH.nil
    intro K hK
    have hq := rINew HVa.out ((HAA.out.on HB2.out).on HSa.out) (fun y hy => short_mono (HSH.out y hy) (by decide)) (by have := HL40.out; omega) nd c HRR.out
    go_simp
    refine hq.mono ?_
    rintro z w3 ⟨hB, hif2⟩
    have HS3 := hid (HSa.out.trans (hB.mono HSa.out.size))
    rw [if_pos rfl] at hif2
    obtain ⟨p, rfl, ⟨v0, u0, hR⟩, hp⟩ := hif2
    have HR := hid hR
    have HLP := hid (Nat.le_trans HSa.out.size hp)
    clear hR hp
    clear hq hB
    refine hK.out _ _ HS3.out ?_
    clear hK K
    refine rh_takeS (i := 7) (o := ?o8) (v := ?v8) (listed' := ?l8) (a' := ?a8) ?hi8 (by kernel_rfl) (by kernel_rfl) (by kernel_rfl) ?hq8 ?hl8 ?hw8 ?hv8 ?ha8 HS3.out ?hh8
    case hi8 => (simp only [List.getElem?_toArray, List.getElem?_cons_succ, List.getElem?_cons_zero]; try rfl)
    case hq8 => exact fun _ _ _ h => h
    case hl8 => (simp only [List.setIfInBounds_toArray, List.set_cons_succ, List.set_cons_zero]; try rfl)
    case hw8 => rfl
    case hv8 =>
      intro W hW
      skip
      go_simp
      try with_reducible rfl
    case ha8 => (simp only [Act.put, List.setIfInBounds_toArray, List.set_cons_succ, List.set_cons_zero]; try rfl)
    refine rh_takeS (i := 8) (o := ?o9) (v := ?v9) (listed' := ?l9) (a' := ?a9) ?hi9 (by kernel_rfl) (by kernel_rfl) (by kernel_rfl) ?hq9 ?hl9 ?hw9 ?hv9 ?ha9 HS3.out ?hh9
    case hi9 => (simp only [List.getElem?_toArray, List.getElem?_cons_succ, List.getElem?_cons_zero]; try rfl)
    case hq9 => exact fun _ _ _ h => h
    case hl9 => (simp only [List.setIfInBounds_toArray, List.set_cons_succ, List.set_cons_zero]; try rfl)
    case hw9 => rfl
    case hv9 =>
      intro W hW
      skip
      go_simp
      try with_reducible rfl
    case ha9 => (simp only [Act.put, List.setIfInBounds_toArray, List.set_cons_succ, List.set_cons_zero]; try rfl)
    refine rh_takeS (i := 9) (o := ?o10) (v := ?v10) (listed' := ?l10) (a' := ?a10) ?hi10 (by kernel_rfl) (by kernel_rfl) (by kernel_rfl) ?hq10 ?hl10 ?hw10 ?hv10 ?ha10 HS3.out ?hh10
    case hi10 => (simp only [List.getElem?_toArray, List.getElem?_cons_succ, List.getElem?_cons_zero]; try rfl)
    case hq10 => exact fun _ _ _ h => h
    case hl10 => (simp only [List.setIfInBounds_toArray, List.set_cons_succ, List.set_cons_zero]; try rfl)
    case hw10 => rfl
    case hv10 =>
      intro W hW
      skip
      go_simp
      try with_reducible rfl
    case ha10 => (simp only [Act.put, List.setIfInBounds_toArray, List.set_cons_succ, List.set_cons_zero]; try rfl)
    refine rh_takeS (i := 10) (o := ?o11) (v := ?v11) (listed' := ?l11) (a' := ?a11) ?hi11 (by kernel_rfl) (by kernel_rfl) (by kernel_rfl) ?hq11 ?hl11 ?hw11 ?hv11 ?ha11 HS3.out ?hh11
    case hi11 => (simp only [List.getElem?_toArray, List.getElem?_cons_succ, List.getElem?_cons_zero]; try rfl)
    case hq11 => exact fun _ _ _ h => h
    case hl11 => (simp only [List.setIfInBounds_toArray, List.set_cons_succ, List.set_cons_zero]; try rfl)
    case hw11 => rfl
    case hv11 =>
      intro W hW
      skip
      go_simp
      try with_reducible rfl
    case ha11 => (simp only [Act.put, List.setIfInBounds_toArray, List.set_cons_succ, List.set_cons_zero]; try rfl)
    refine rh_takeS (i := 11) (o := ?o12) (v := ?v12) (listed' := ?l12) (a' := ?a12) ?hi12 (by kernel_rfl) (by kernel_rfl) (by kernel_rfl) ?hq12 ?hl12 ?hw12 ?hv12 ?ha12 HS3.out ?hh12
    case hi12 => (simp only [List.getElem?_toArray, List.getElem?_cons_succ, List.getElem?_cons_zero]; try rfl)
    case hq12 => exact fun _ _ _ h => h
    case hl12 => (simp only [List.setIfInBounds_toArray, List.set_cons_succ, List.set_cons_zero]; try rfl)
    case hw12 => rfl
    case hv12 =>
      intro W hW
      skip
      go_simp
      try with_reducible rfl
    case ha12 => (simp only [Act.put, List.setIfInBounds_toArray, List.set_cons_succ, List.set_cons_zero]; try rfl)
    refine wpAnyH_done (by kernel_rfl) ?_ _
    have HB3 := hid (HB2.out.trans (HS3.out.mono HB2.out.size))
    clear HS0 HSa HVa HFA
    have hpv : Pv w3 x b b2 p (40 + 40 * 0) nd (seeN c l) (seeN c l) l := by
      have hi := HI.out.on HS3.out
      have hcb := newR_ok HRR.out.symm
      exact ⟨⟨l.length, [], hi, HL40.out, Nat.zero_le _, v0, u0, HR.out⟩, HL40.out, (HAA.out.on HB2.out).on HS3.out, HSH.out, seeN_bd hcb l, seeN_bd hcb l⟩
    have HPV := hid hpv
    have HS : Hid (∀ k, TP x b b2 p k → w.heap.size ≤ k) := hid (by
      obtain ⟨h1, h2, h3⟩ := HLX.out
      have h4 := HLP.out
      have h5 := HLO.out
      have h6 := HB2.out.size
      rintro k ((rfl | rfl | rfl) | rfl) <;> omega)
    clear hpv HI HLX HR HLP HRR HS3 HO2 HB2 HLO HSE HAA HSH HL40
    go_wp2_with fail
    go_loopw [12] (fun i wr => ∃ (k : Nat) (cc : Int) (xs : List En), k ≤ m ∧ k ≤ 40 ∧ i = .int .i64 k ∧ Hid (Pv wr x b b2 p (40 + 40 * k) nd cc cc xs) ∧ Hid (Below w.heap.size w wr)) (fun i _ => m - (RowKit.intOf i).toNat)
    case atStart => exact ⟨0, _, _, Nat.zero_le _, by omega, rfl, HPV, HB3⟩
    case round =>
      obtain ⟨k, cc, xs, hk, hk40, rfl, HP, HB⟩ := hrel
      clear HPV HB3
      by_cases hlt : k < m
      · have hlti : ((k : Int) < m) := by omega
        obtain rfl := HAP.out (by omega)
        obtain ⟨a, ha⟩ : ∃ a, acs[k]? = some a := ⟨acs[k]'(by rw [← HM.out]; exact hlt), List.getElem?_eq_getElem (by rw [← HM.out]; exact hlt)⟩
        have hbw := HAB.out (by omega)
        have HC : Hid (wr.rangeAt ab (ao + k * 22) a.list) := hid ((HAC.out.on HB.out fun _ => hbw) k a ha)
        have HAW := hid (HAT.out a (List.mem_of_getElem? ha))
        have HAA := hid (HAW.out.on HB.out)
        clear ha
        go_wp2_with (first
          | ((with_reducible refine loadAl (x := ?lx1) (b := ?lb1) (o := ?lo1) a ?lg1 ?lp1 ?lxx1 ?lc1 ?_); (case lg1 => rfl); (case lp1 => rfl); (case lxx1 => rfl); (case lc1 => exact HC.out))
          | ((with_reducible refine storeA (x := ?sx1) (y := ?sy1) (b := wr.heap.size) a ?sg1 ?so1 ?sxx1 ?syy1 ?sc1 ?sh1); (case sg1 => rfl); (case so1 => rfl); (case sxx1 => rfl); (case syy1 => rfl); (case sc1 => exact zeroRoomA wr); intro W9 hO hU; have HO9 := hid hO; have HB9 := hid (((Below.refl wr.heap.size wr).alloc (Nat.le_refl _) zeroAc).trans (hU.below wr.heap.size (Nat.le_refl _))); clear hO hU)
          | ((with_reducible refine loadEl (T := 44) (x := ?ex1) (b := ?eb1) (o := ?eo1) uE iE a.y.e ?eg1 ?ep1 ?exx1 ?ec1 ?_); (case eg1 => rfl); (case ep1 => rfl); (case exx1 => rfl); (case ec1 => exact OA.ent HO9.out))
          | ((with_reducible refine wpList_bsE (x := ?bx1) a.y.e ?bg1 ?bo1 ?bxx1 ?bh1); (case bg1 => rfl); (case bo1 => rfl); (case bxx1 => rfl); intro W8 hO hU; have HO8 := hid hO; have HB8 := hid (HB9.out.trans (hU.mono HB9.out.size)); have HU8 := hid hU; clear hO hU)
          | fail)
        go_at_call 5
        refine (cFitsL (l := [a.y]) (slE_one HO8.out) (fun z hz => by simp at hz; subst hz; exact HAA.out.2.1.on HB8.out) (by simp)).mono ?_
        rintro e w4 ⟨hr, hB4⟩
        have HB4 := hid (HB8.out.trans (hB4.mono HB8.out.size))
        have HBw4 := hid (HB.out.trans (HB4.out.mono HB.out.size))
        have ho8 := heapB HO9.out HU8.out (Array.getElem?_eq_some_iff.1 HO9.out).1
        have HO4 := hid (show OA w4 wr.heap.size a from heapB ho8 hB4 (Array.getElem?_eq_some_iff.1 ho8).1)
        clear ho8 hB4 HO9 HB9 HO8 HB8 HU8 HC hbw
        rcases hr with rfl | ⟨rfl, -, hsh⟩
        · go_wp2_with fail
          go_at_call 6
          refine (HIA.out w4).mono ?_
          rintro e wz ⟨rfl, hBz⟩
          have HBz := hid (HBw4.out.trans (hBz.mono HBw4.out.size))
          clear hBz
          go_wp2_with fail
          go_ret
          exact ⟨rfl, HBz.out⟩
        have k2 : w4.cell? ⟨wr.heap.size, 2, none⟩ = some (.slice a.l.a a.l.n a.l.c) := OA.cell HO4.out rfl
        have HSHa := hid (hsh a.y (by simp))
        clear hsh
        by_cases hn40 : 40 < a.l.n
        · have hj40 : ((40 : Int) < a.l.n) := by omega
          go_wp2_with fail
          go_at_call 6
          refine (HIA.out w4).mono ?_
          rintro e wz ⟨rfl, hBz⟩
          have HBz := hid (HBw4.out.trans (hBz.mono HBw4.out.size))
          clear hBz
          go_wp2_with fail
          go_ret
          exact ⟨rfl, HBz.out⟩
        have hj40 : ¬ ((40 : Int) < a.l.n) := by omega
        have HCL := hid (show a.cs.length ≤ 40 from by have := sl_n HAA.out.1; omega)
        go_wp2_with (first
          | ((with_reducible refine loadA (x := ?kx1) (b := ?kb1) a ?kg1 ?kp1 ?kxx1 ?kc1 ?_); (case kg1 => rfl); (case kp1 => rfl); (case kxx1 => rfl); (case kc1 => exact HO4.out))
          | fail)
        go_at_call 10
        refine (cStepP (HP.out.on HB4.out) (by omega) (HAA.out.on HB4.out) HSHa.out HCL.out).mono ?_
        rintro e w5 ⟨c1, xs1, rfl, hP, ht⟩
        have HP5 := hid (hP.mono (show 40 + 40 * k + 40 ≤ 40 + 40 * (k + 1) by omega))
        have HB5 := hid (HBw4.out.trans (ht.below HS.out HBw4.out.size))
        have HO5 := hid (show OA w5 wr.heap.size a from ht.ob HO4.out fun hk => by have := HP.out.lt _ hk; omega)
        have HA5 := hid (HAW.out.on HB5.out)
        clear hP ht k2 HB4 HBw4 HO4 HP hn40 hj40 HAA HSHa
        go_wp2_with fail
        obtain ⟨n5, ids5, hI5, hn5, hi5, v5, u5, hR5⟩ := HP5.out.ix
        have HI5 := hid hI5
        have HR5 := hid hR5
        have HN5 := hid (show n5 ≤ 20000 by omega)
        have HL5 := hid (show xs1.length ≤ 20000 by have := HP5.out.len; omega)
        clear hI5 hn5 hi5 hR5
        refine rh_start (S := fun W => Below w5.heap.size w5 W) (n := 9) (listed := #[false, false, false, false, false, false, false, false, false]) (by kernel_rfl) rfl rfl ?_
        have HS0 : Hid (Below w5.heap.size w5 w5.drew) := hid (belowDrew (Below.refl _ w5))
        generalize World.drew w5 = wd at HS0 ⊢
        refine rh_takeS (i := 0) (o := ?o13) (v := ?v13) (listed' := ?l13) (a' := ?a13) ?hi13 (by kernel_rfl) (by kernel_rfl) (by kernel_rfl) ?hq13 ?hl13 ?hw13 ?hv13 ?ha13 HS0.out ?hh13
        case hi13 => (simp only [List.getElem?_toArray, List.getElem?_cons_zero]; try rfl)
        case hq13 => exact fun _ _ _ h => h
        case hl13 => (simp only [List.setIfInBounds_toArray, List.set_cons_zero]; try rfl)
        case hw13 => rfl
        case hv13 =>
          intro W hW
          obtain ⟨r0, r1, r2, -⟩ := (HR5.out.on hW).cells
          go_simp
          try with_reducible rfl
        case ha13 => (simp only [Act.put, List.setIfInBounds_toArray, List.set_cons_succ, List.set_cons_zero]; try rfl)
        refine rh_takeS (i := 3) (o := ?o14) (v := ?v14) (listed' := ?l14) (a' := ?a14) ?hi14 (by kernel_rfl) (by kernel_rfl) (by kernel_rfl) ?hq14 ?hl14 ?hw14 ?hv14 ?ha14 HS0.out ?hh14
        case hi14 => (simp only [List.getElem?_toArray, List.getElem?_cons_succ, List.getElem?_cons_zero]; try rfl)
        case hq14 => exact fun _ _ _ h => h
        case hl14 => (simp only [List.setIfInBounds_toArray, List.set_cons_succ, List.set_cons_zero]; try rfl)
        case hw14 => rfl
        case hv14 =>
          intro W hW
          obtain ⟨r0, r1, r2, -⟩ := (HR5.out.on hW).cells
          go_simp
          try with_reducible rfl
        case ha14 => (simp only [Act.put, List.setIfInBounds_toArray, List.set_cons_succ, List.set_cons_zero]; try rfl)
        refine rh_takeS (i := 4) (o := ?o15) (v := ?v15) (listed' := ?l15) (a' := ?a15) ?hi15 (by kernel_rfl) (by kernel_rfl) (by kernel_rfl) ?hq15 ?hl15 ?hw15 ?hv15 ?ha15 HS0.out ?hh15
        case hi15 => (simp only [List.getElem?_toArray, List.getElem?_cons_succ, List.getElem?_cons_zero]; try rfl)
        case hq15 => exact fun _ _ _ h => h
        case hl15 => (simp only [List.setIfInBounds_toArray, List.set_cons_succ, List.set_cons_zero]; try rfl)
        case hw15 => rfl
        case hv15 =>
          intro W hW
          obtain ⟨r0, r1, r2, -⟩ := (HR5.out.on hW).cells
          go_simp
          try with_reducible rfl
        case ha15 => (simp only [Act.put, List.setIfInBounds_toArray, List.set_cons_succ, List.set_cons_zero]; try rfl)
        refine rh_takeS (i := 5) (o := ?o16) (v := ?v16) (listed' := ?l16) (a' := ?a16) ?hi16 (by kernel_rfl) (by kernel_rfl) (by kernel_rfl) ?hq16 ?hl16 ?hw16 ?hv16 ?ha16 HS0.out ?hh16
        case hi16 => (simp only [List.getElem?_toArray, List.getElem?_cons_succ, List.getElem?_cons_zero]; try rfl)
        case hq16 => exact fun _ _ _ h => h
        case hl16 => (simp only [List.setIfInBounds_toArray, List.set_cons_succ, List.set_cons_zero]; try rfl)
        case hw16 => rfl
        case hv16 =>
          intro W hW
          obtain ⟨r0, r1, r2, -⟩ := (HR5.out.on hW).cells
          go_simp
          try with_reducible rfl
        case ha16 => (simp only [Act.put, List.setIfInBounds_toArray, List.set_cons_succ, List.set_cons_zero]; try rfl)
        refine rh_takeS (i := 6) (o := ?o17) (v := ?v17) (listed' := ?l17) (a' := ?a17) ?hi17 (by kernel_rfl) (by kernel_rfl) (by kernel_rfl) ?hq17 ?hl17 ?hw17 ?hv17 ?ha17 HS0.out ?hh17
        case hi17 => (simp only [List.getElem?_toArray, List.getElem?_cons_succ, List.getElem?_cons_zero]; try rfl)
        case hq17 => exact fun _ _ _ h => h
        case hl17 => (simp only [List.setIfInBounds_toArray, List.set_cons_succ, List.set_cons_zero]; try rfl)
        case hw17 => rfl
        case hv17 =>
          intro W hW
          obtain ⟨r0, r1, r2, -⟩ := (HR5.out.on hW).cells
          go_simp
          try with_reducible rfl
        case ha17 => (simp only [Act.put, List.setIfInBounds_toArray, List.set_cons_succ, List.set_cons_zero]; try rfl)
        refine wpAnyH_ready (rs := [1]) (by kernel_rfl) (by simp) ?_
        refine rh_cons (i := 1) (o := ?o18) (listed' := ?l18) ?hi18 ?hl18 ?hg18 ?hh18 ?hs18
        case hi18 => (simp only [List.getElem?_toArray, List.getElem?_cons_succ, List.getElem?_cons_zero]; try rfl)
        case hl18 => (simp only [List.setIfInBounds_toArray, List.set_cons_succ, List.set_cons_zero]; try rfl)
        case hg18 => rfl
        case hs18 => exact AllReadyH.nil
        intro K hK
        go_simp
        refine (cAll (HI5.out.on HS0.out) HN5.out HL5.out).mono ?_
        rintro z wa ⟨va, rfl, hv, hB⟩
        have HSa := hid (HS0.out.trans (hB.mono HS0.out.size))
        have hq := rOf hv (Nat.le_trans (keptE_len xs1) (by have := HL5.out; omega))
        clear hB hv
        refine hK.out _ _ HSa.out ?_
        clear hK K
        refine wpAnyH_ready (rs := [2]) (by kernel_rfl) (by simp) ?_
        refine rh_cons (i := 2) (o := ?o19) (listed' := ?l19) ?hi19 ?hl19 ?hg19 ?hh19 ?hs19
        case hi19 => (simp only [List.getElem?_toArray, List.getElem?_cons_succ, List.getElem?_cons_zero]; try rfl)
        case hl19 => (simp only [List.setIfInBounds_toArray, List.set_cons_succ, List.set_cons_zero]; try rfl)
        case hg19 => rfl
        case hs19 => exact AllReadyH.nil
        intro K hK
        go_simp
        refine hq.mono ?_
        rintro z wb ⟨vb, rfl, hv, hB⟩
        have HSb := hid (HSa.out.trans (hB.mono HSa.out.size))
        have HVb := hid (show SlE wb vb (evs (keptG En.id xs1)) from OwnG.slG kE hv)
        clear hB hv hq
        refine hK.out _ _ HSb.out ?_
        clear hK K
        refine wpAnyH_ready (rs := [7]) (by kernel_rfl) (by simp) ?_
        refine rh_cons (i := 7) (o := ?o20) (listed' := ?l20) ?hi20 ?hl20 ?hg20 ?hh20 ?hs20
        case hi20 => (simp only [List.getElem?_toArray, List.getElem?_cons_succ, List.getElem?_cons_zero]; try rfl)
        case hl20 => (simp only [List.setIfInBounds_toArray, List.set_cons_succ, List.set_cons_zero]; try rfl)
        case hg20 => rfl
        case hs20 => exact AllReadyH.nil
        intro K hK
        have hq := rSames HVb.out (show SlE wb v5 (evs (keptG En.id xs1)) from OwnG.slG kE (HR5.out.on HSb.out).es) (keptG_all (HP5.out.all.on HSb.out)) (keptG_all (HP5.out.all.on HSb.out)) (keptG_short fun y hy => short_mono (HP5.out.sh y hy) (by decide)) (keptG_short fun y hy => short_mono (HP5.out.sh y hy) (by decide)) rfl (Nat.le_trans (kept_lenG xs1) (by have := HL5.out; omega)) (fun j y z hy hz => by rw [hy] at hz; cases hz; exact sameEn_self y)
        go_simp
        refine hq.mono ?_
        rintro z w6 ⟨rfl, hB⟩
        have HS6 := hid (HSb.out.trans (hB.mono HSb.out.size))
        clear hB hq
        refine hK.out _ _ HS6.out ?_
        clear hK K
        refine rh_takeS (i := 8) (o := ?o21) (v := ?v21) (listed' := ?l21) (a' := ?a21) ?hi21 (by kernel_rfl) (by kernel_rfl) (by kernel_rfl) ?hq21 ?hl21 ?hw21 ?hv21 ?ha21 HS6.out ?hh21
        case hi21 => (simp only [List.getElem?_toArray, List.getElem?_cons_succ, List.getElem?_cons_zero]; try rfl)
        case hq21 => exact fun _ _ _ h => h
        case hl21 => (simp only [List.setIfInBounds_toArray, List.set_cons_succ, List.set_cons_zero]; try rfl)
        case hw21 => rfl
        case hv21 =>
          intro W hW
          skip
          go_simp
          try with_reducible rfl
        case ha21 => (simp only [Act.put, List.setIfInBounds_toArray, List.set_cons_succ, List.set_cons_zero]; try rfl)
        refine wpAnyH_done (by kernel_rfl) ?_ _
        have HP6 := hid (HP5.out.on HS6.out)
        have HB6 := hid (HB5.out.trans (HS6.out.mono HB5.out.size))
        have HO6 := hid (show OA w6 wr.heap.size a from heapB HO5.out HS6.out (Array.getElem?_eq_some_iff.1 HO5.out).1)
        have HA6 := hid (HA5.out.on HS6.out)
        have HI6 := hid (HI5.out.on HS6.out)
        have HR6 := hid (HR5.out.on HS6.out)
        clear HS0 HSa HSb HVb HS6 HP5 HB5 HO5 HA5 HI5 HR5
        go_wp2_with (first
          | ((with_reducible refine loadA (x := ?kx2) (b := ?kb2) a ?kg2 ?kp2 ?kxx2 ?kc2 ?_); (case kg2 => rfl); (case kp2 => rfl); (case kxx2 => rfl); (case kc2 => exact HO6.out))
          | fail)
        go_at_call 13
        refine (cTells HP6.out (by omega) HA6.out HCL.out).mono ?_
        rintro e w7 ⟨rfl, hB⟩
        have HP7 := hid (HP6.out.on hB)
        have HB7 := hid (HB6.out.trans (hB.mono HB6.out.size))
        have HI7 := hid (HI6.out.on hB)
        have HR7 := hid (HR6.out.on hB)
        clear hB HP6 HB6 HO6 HA6 HI6 HR6
        go_wp2_with fail
        refine rh_start (S := fun W => Below w7.heap.size w7 W) (n := 28) (listed := #[false, false, false, false, false, false, false, false, false, false, false, false, false, false, false, false, false, false, false, false, false, false, false, false, false, false, false, false]) (by kernel_rfl) rfl rfl ?_
        have HS0 : Hid (Below w7.heap.size w7 w7.drew) := hid (belowDrew (Below.refl _ w7))
        generalize World.drew w7 = wd at HS0 ⊢
        refine rh_takeS (i := 0) (o := ?o22) (v := ?v22) (listed' := ?l22) (a' := ?a22) ?hi22 (by kernel_rfl) (by kernel_rfl) (by kernel_rfl) ?hq22 ?hl22 ?hw22 ?hv22 ?ha22 HS0.out ?hh22
        case hi22 => (simp only [List.getElem?_toArray, List.getElem?_cons_zero]; try rfl)
        case hq22 => exact fun _ _ _ h => h
        case hl22 => (simp only [List.setIfInBounds_toArray, List.set_cons_zero]; try rfl)
        case hw22 => rfl
        case hv22 =>
          intro W hW
          obtain ⟨r0, r1, r2, -⟩ := (HR7.out.on hW).cells
          go_simp
          try with_reducible rfl
        case ha22 => (simp only [Act.put, List.setIfInBounds_toArray, List.set_cons_succ, List.set_cons_zero]; try rfl)
        refine rh_takeS (i := 1) (o := ?o23) (v := ?v23) (listed' := ?l23) (a' := ?a23) ?hi23 (by kernel_rfl) (by kernel_rfl) (by kernel_rfl) ?hq23 ?hl23 ?hw23 ?hv23 ?ha23 HS0.out ?hh23
        case hi23 => (simp only [List.getElem?_toArray, List.getElem?_cons_succ, List.getElem?_cons_zero]; try rfl)
        case hq23 => exact fun _ _ _ h => h
        case hl23 => (simp only [List.setIfInBounds_toArray, List.set_cons_succ, List.set_cons_zero]; try rfl)
        case hw23 => rfl
        case hv23 =>
          intro W hW
          obtain ⟨r0, r1, r2, -⟩ := (HR7.out.on hW).cells
          go_simp
          try with_reducible rfl
        case ha23 => (simp only [Act.put, List.setIfInBounds_toArray, List.set_cons_succ, List.set_cons_zero]; try rfl)
        refine rh_takeS (i := 2) (o := ?o24) (v := ?v24) (listed' := ?l24) (a' := ?a24) ?hi24 (by kernel_rfl) (by kernel_rfl) (by kernel_rfl) ?hq24 ?hl24 ?hw24 ?hv24 ?ha24 HS0.out ?hh24
        case hi24 => (simp only [List.getElem?_toArray, List.getElem?_cons_succ, List.getElem?_cons_zero]; try rfl)
        case hq24 => exact fun _ _ _ h => h
        case hl24 => (simp only [List.setIfInBounds_toArray, List.set_cons_succ, List.set_cons_zero]; try rfl)
        case hw24 => rfl
        case hv24 =>
          intro W hW
          obtain ⟨r0, r1, r2, -⟩ := (HR7.out.on hW).cells
          go_simp
          try with_reducible rfl
        case ha24 => (simp only [Act.put, List.setIfInBounds_toArray, List.set_cons_succ, List.set_cons_zero]; try rfl)
        refine rh_takeS (i := 3) (o := ?o25) (v := ?v25) (listed' := ?l25) (a' := ?a25) ?hi25 (by kernel_rfl) (by kernel_rfl) (by kernel_rfl) ?hq25 ?hl25 ?hw25 ?hv25 ?ha25 HS0.out ?hh25
        case hi25 => (simp only [List.getElem?_toArray, List.getElem?_cons_succ, List.getElem?_cons_zero]; try rfl)
        case hq25 => exact fun _ _ _ h => h
        case hl25 => (simp only [List.setIfInBounds_toArray, List.set_cons_succ, List.set_cons_zero]; try rfl)
        case hw25 => rfl
        case hv25 =>
          intro W hW
          obtain ⟨r0, r1, r2, -⟩ := (HR7.out.on hW).cells
          go_simp
          try with_reducible rfl
        case ha25 => (simp only [Act.put, List.setIfInBounds_toArray, List.set_cons_succ, List.set_cons_zero]; try rfl)
        refine rh_takeS (i := 4) (o := ?o26) (v := ?v26) (listed' := ?l26) (a' := ?a26) ?hi26 (by kernel_rfl) (by kernel_rfl) (by kernel_rfl) ?hq26 ?hl26 ?hw26 ?hv26 ?ha26 HS0.out ?hh26
        case hi26 => (simp only [List.getElem?_toArray, List.getElem?_cons_succ, List.getElem?_cons_zero]; try rfl)
        case hq26 => exact fun _ _ _ h => h
        case hl26 => (simp only [List.setIfInBounds_toArray, List.set_cons_succ, List.set_cons_zero]; try rfl)
        case hw26 => rfl
        case hv26 =>
          intro W hW
          obtain ⟨r0, r1, r2, -⟩ := (HR7.out.on hW).cells
          go_simp
          try with_reducible rfl
        case ha26 => (simp only [Act.put, List.setIfInBounds_toArray, List.set_cons_succ, List.set_cons_zero]; try rfl)
        refine rh_takeS (i := 5) (o := ?o27) (v := ?v27) (listed' := ?l27) (a' := ?a27) ?hi27 (by kernel_rfl) (by kernel_rfl) (by kernel_rfl) ?hq27 ?hl27 ?hw27 ?hv27 ?ha27 HS0.out ?hh27
        case hi27 => (simp only [List.getElem?_toArray, List.getElem?_cons_succ, List.getElem?_cons_zero]; try rfl)
        case hq27 => exact fun _ _ _ h => h
        case hl27 => (simp only [List.setIfInBounds_toArray, List.set_cons_succ, List.set_cons_zero]; try rfl)
        case hw27 => rfl
        case hv27 =>
          intro W hW
          obtain ⟨r0, r1, r2, -⟩ := (HR7.out.on hW).cells
          go_simp
          try with_reducible rfl
        case ha27 => (simp only [Act.put, List.setIfInBounds_toArray, List.set_cons_succ, List.set_cons_zero]; try rfl)
        refine rh_takeS (i := 6) (o := ?o28) (v := ?v28) (listed' := ?l28) (a' := ?a28) ?hi28 (by kernel_rfl) (by kernel_rfl) (by kernel_rfl) ?hq28 ?hl28 ?hw28 ?hv28 ?ha28 HS0.out ?hh28
        case hi28 => (simp only [List.getElem?_toArray, List.getElem?_cons_succ, List.getElem?_cons_zero]; try rfl)
        case hq28 => exact fun _ _ _ h => h
        case hl28 => (simp only [List.setIfInBounds_toArray, List.set_cons_succ, List.set_cons_zero]; try rfl)
        case hw28 => rfl
        case hv28 =>
          intro W hW
          obtain ⟨r0, r1, r2, -⟩ := (HR7.out.on hW).cells
          go_simp
          try with_reducible rfl
        case ha28 => (simp only [Act.put, List.setIfInBounds_toArray, List.set_cons_succ, List.set_cons_zero]; try rfl)
        refine rh_takeS (i := 7) (o := ?o29) (v := ?v29) (listed' := ?l29) (a' := ?a29) ?hi29 (by kernel_rfl) (by kernel_rfl) (by kernel_rfl) ?hq29 ?hl29 ?hw29 ?hv29 ?ha29 HS0.out ?hh29
        case hi29 => (simp only [List.getElem?_toArray, List.getElem?_cons_succ, List.getElem?_cons_zero]; try rfl)
        case hq29 => exact fun _ _ _ h => h
        case hl29 => (simp only [List.setIfInBounds_toArray, List.set_cons_succ, List.set_cons_zero]; try rfl)
        case hw29 => rfl
        case hv29 =>
          intro W hW
          obtain ⟨r0, r1, r2, -⟩ := (HR7.out.on hW).cells
          go_simp
          try with_reducible rfl
        case ha29 => (simp only [Act.put, List.setIfInBounds_toArray, List.set_cons_succ, List.set_cons_zero]; try rfl)
        refine rh_takeS (i := 8) (o := ?o30) (v := ?v30) (listed' := ?l30) (a' := ?a30) ?hi30 (by kernel_rfl) (by kernel_rfl) (by kernel_rfl) ?hq30 ?hl30 ?hw30 ?hv30 ?ha30 HS0.out ?hh30
        case hi30 => (simp only [List.getElem?_toArray, List.getElem?_cons_succ, List.getElem?_cons_zero]; try rfl)
        case hq30 => exact fun _ _ _ h => h
        case hl30 => (simp only [List.setIfInBounds_toArray, List.set_cons_succ, List.set_cons_zero]; try rfl)
        case hw30 => rfl
        case hv30 =>
          intro W hW
          obtain ⟨r0, r1, r2, -⟩ := (HR7.out.on hW).cells
          go_simp
          try with_reducible rfl
        case ha30 => (simp only [Act.put, List.setIfInBounds_toArray, List.set_cons_succ, List.set_cons_zero]; try rfl)
        refine rh_takeS (i := 9) (o := ?o31) (v := ?v31) (listed' := ?l31) (a' := ?a31) ?hi31 (by kernel_rfl) (by kernel_rfl) (by kernel_rfl) ?hq31 ?hl31 ?hw31 ?hv31 ?ha31 HS0.out ?hh31
        case hi31 => (simp only [List.getElem?_toArray, List.getElem?_cons_succ, List.getElem?_cons_zero]; try rfl)
        case hq31 => exact fun _ _ _ h => h
        case hl31 => (simp only [List.setIfInBounds_toArray, List.set_cons_succ, List.set_cons_zero]; try rfl)
        case hw31 => rfl
        case hv31 =>
          intro W hW
          obtain ⟨r0, r1, r2, -⟩ := (HR7.out.on hW).cells
          go_simp
          try with_reducible rfl
        case ha31 => (simp only [Act.put, List.setIfInBounds_toArray, List.set_cons_succ, List.set_cons_zero]; try rfl)
        refine rh_takeS (i := 10) (o := ?o32) (v := ?v32) (listed' := ?l32) (a' := ?a32) ?hi32 (by kernel_rfl) (by kernel_rfl) (by kernel_rfl) ?hq32 ?hl32 ?hw32 ?hv32 ?ha32 HS0.out ?hh32
        case hi32 => (simp only [List.getElem?_toArray, List.getElem?_cons_succ, List.getElem?_cons_zero]; try rfl)
        case hq32 => exact fun _ _ _ h => h
        case hl32 => (simp only [List.setIfInBounds_toArray, List.set_cons_succ, List.set_cons_zero]; try rfl)
        case hw32 => rfl
        case hv32 =>
          intro W hW
          obtain ⟨r0, r1, r2, -⟩ := (HR7.out.on hW).cells
          go_simp
          try with_reducible rfl
        case ha32 => (simp only [Act.put, List.setIfInBounds_toArray, List.set_cons_succ, List.set_cons_zero]; try rfl)
        refine rh_takeS (i := 11) (o := ?o33) (v := ?v33) (listed' := ?l33) (a' := ?a33) ?hi33 (by kernel_rfl) (by kernel_rfl) (by kernel_rfl) ?hq33 ?hl33 ?hw33 ?hv33 ?ha33 HS0.out ?hh33
        case hi33 => (simp only [List.getElem?_toArray, List.getElem?_cons_succ, List.getElem?_cons_zero]; try rfl)
        case hq33 => exact fun _ _ _ h => h
        case hl33 => (simp only [List.setIfInBounds_toArray, List.set_cons_succ, List.set_cons_zero]; try rfl)
        case hw33 => rfl
        case hv33 =>
          intro W hW
          obtain ⟨r0, r1, r2, -⟩ := (HR7.out.on hW).cells
          go_simp
          try with_reducible rfl
        case ha33 => (simp only [Act.put, List.setIfInBounds_toArray, List.set_cons_succ, List.set_cons_zero]; try rfl)
        refine rh_takeS (i := 13) (o := ?o34) (v := ?v34) (listed' := ?l34) (a' := ?a34) ?hi34 (by kernel_rfl) (by kernel_rfl) (by kernel_rfl) ?hq34 ?hl34 ?hw34 ?hv34 ?ha34 HS0.out ?hh34
        case hi34 => (simp only [List.getElem?_toArray, List.getElem?_cons_succ, List.getElem?_cons_zero]; try rfl)
        case hq34 => exact fun _ _ _ h => h
        case hl34 => (simp only [List.setIfInBounds_toArray, List.set_cons_succ, List.set_cons_zero]; try rfl)
        case hw34 => rfl
        case hv34 =>
          intro W hW
          obtain ⟨r0, r1, r2, -⟩ := (HR7.out.on hW).cells
          go_simp
          try with_reducible rfl
        case ha34 => (simp only [Act.put, List.setIfInBounds_toArray, List.set_cons_succ, List.set_cons_zero]; try rfl)
        refine rh_takeS (i := 14) (o := ?o35) (v := ?v35) (listed' := ?l35) (a' := ?a35) ?hi35 (by kernel_rfl) (by kernel_rfl) (by kernel_rfl) ?hq35 ?hl35 ?hw35 ?hv35 ?ha35 HS0.out ?hh35
        case hi35 => (simp only [List.getElem?_toArray, List.getElem?_cons_succ, List.getElem?_cons_zero]; try rfl)
        case hq35 => exact fun _ _ _ h => h
        case hl35 => (simp only [List.setIfInBounds_toArray, List.set_cons_succ, List.set_cons_zero]; try rfl)
        case hw35 => rfl
        case hv35 =>
          intro W hW
          obtain ⟨r0, r1, r2, -⟩ := (HR7.out.on hW).cells
          go_simp
          try with_reducible rfl
        case ha35 => (simp only [Act.put, List.setIfInBounds_toArray, List.set_cons_succ, List.set_cons_zero]; try rfl)
        refine rh_takeS (i := 15) (o := ?o36) (v := ?v36) (listed' := ?l36) (a' := ?a36) ?hi36 (by kernel_rfl) (by kernel_rfl) (by kernel_rfl) ?hq36 ?hl36 ?hw36 ?hv36 ?ha36 HS0.out ?hh36
        case hi36 => (simp only [List.getElem?_toArray, List.getElem?_cons_succ, List.getElem?_cons_zero]; try rfl)
        case hq36 => exact fun _ _ _ h => h
        case hl36 => (simp only [List.setIfInBounds_toArray, List.set_cons_succ, List.set_cons_zero]; try rfl)
        case hw36 => rfl
        case hv36 =>
          intro W hW
          obtain ⟨r0, r1, r2, -⟩ := (HR7.out.on hW).cells
          go_simp
          try with_reducible rfl
        case ha36 => (simp only [Act.put, List.setIfInBounds_toArray, List.set_cons_succ, List.set_cons_zero]; try rfl)
        refine rh_takeS (i := 16) (o := ?o37) (v := ?v37) (listed' := ?l37) (a' := ?a37) ?hi37 (by kernel_rfl) (by kernel_rfl) (by kernel_rfl) ?hq37 ?hl37 ?hw37 ?hv37 ?ha37 HS0.out ?hh37
        case hi37 => (simp only [List.getElem?_toArray, List.getElem?_cons_succ, List.getElem?_cons_zero]; try rfl)
        case hq37 => exact fun _ _ _ h => h
        case hl37 => (simp only [List.setIfInBounds_toArray, List.set_cons_succ, List.set_cons_zero]; try rfl)
        case hw37 => rfl
        case hv37 =>
          intro W hW
          obtain ⟨r0, r1, r2, -⟩ := (HR7.out.on hW).cells
          go_simp
          try with_reducible rfl
        case ha37 => (simp only [Act.put, List.setIfInBounds_toArray, List.set_cons_succ, List.set_cons_zero]; try rfl)
        refine wpAnyH_ready (rs := [12]) (by kernel_rfl) (by simp) ?_
        refine rh_consW (i := 12) (o := ?o38) (listed' := ?l38) ?hi38 ?hl38 ?hg38 ?hh38 ?hs38
        case hi38 => (simp only [List.getElem?_toArray, List.getElem?_cons_succ, List.getElem?_cons_zero]; try rfl)
        case hl38 => (simp only [List.setIfInBounds_toArray, List.set_cons_succ, List.set_cons_zero]; try rfl)
        case hg38 => rfl
        case hs38 => exact AllReadyH.nil
        intro K hK
        go_simp
        refine (cClock (HI7.out.on HS0.out)).mono ?_
        rintro z wa ⟨rfl, rfl⟩
        refine hK.out _ _ HS0.out ?_
        clear hK K
        refine rh_takeS (i := 17) (o := ?o39) (v := ?v39) (listed' := ?l39) (a' := ?a39) ?hi39 (by kernel_rfl) (by kernel_rfl) (by kernel_rfl) ?hq39 ?hl39 ?hw39 ?hv39 ?ha39 HS0.out ?hh39
        case hi39 => (simp only [List.getElem?_toArray, List.getElem?_cons_succ, List.getElem?_cons_zero]; try rfl)
        case hq39 => exact fun _ _ _ h => h
        case hl39 => (simp only [List.setIfInBounds_toArray, List.set_cons_succ, List.set_cons_zero]; try rfl)
        case hw39 => rfl
        case hv39 =>
          intro W hW
          obtain ⟨r0, r1, r2, -⟩ := (HR7.out.on hW).cells
          go_simp
          try with_reducible rfl
        case ha39 => (simp only [Act.put, List.setIfInBounds_toArray, List.set_cons_succ, List.set_cons_zero]; try rfl)
        refine rh_takeS (i := 18) (o := ?o40) (v := ?v40) (listed' := ?l40) (a' := ?a40) ?hi40 (by kernel_rfl) (by kernel_rfl) (by kernel_rfl) ?hq40 ?hl40 ?hw40 ?hv40 ?ha40 HS0.out ?hh40
        case hi40 => (simp only [List.getElem?_toArray, List.getElem?_cons_succ, List.getElem?_cons_zero]; try rfl)
        case hq40 => exact fun _ _ _ h => h
        case hl40 => (simp only [List.setIfInBounds_toArray, List.set_cons_succ, List.set_cons_zero]; try rfl)
        case hw40 => rfl
        case hv40 =>
          intro W hW
          obtain ⟨r0, r1, r2, -⟩ := (HR7.out.on hW).cells
          go_simp
          try with_reducible rfl
        case ha40 => (simp only [Act.put, List.setIfInBounds_toArray, List.set_cons_succ, List.set_cons_zero]; try rfl)
        refine rh_takeS (i := 19) (o := ?o41) (v := ?v41) (listed' := ?l41) (a' := ?a41) ?hi41 (by kernel_rfl) (by kernel_rfl) (by kernel_rfl) ?hq41 ?hl41 ?hw41 ?hv41 ?ha41 HS0.out ?hh41
        case hi41 => (simp only [List.getElem?_toArray, List.getElem?_cons_succ, List.getElem?_cons_zero]; try rfl)
        case hq41 => exact fun _ _ _ h => h
        case hl41 => (simp only [List.setIfInBounds_toArray, List.set_cons_succ, List.set_cons_zero]; try rfl)
        case hw41 => rfl
        case hv41 =>
          intro W hW
          obtain ⟨r0, r1, r2, -⟩ := (HR7.out.on hW).cells
          go_simp
          try with_reducible rfl
        case ha41 => (simp only [Act.put, List.setIfInBounds_toArray, List.set_cons_succ, List.set_cons_zero]; try rfl)
        refine rh_takeS (i := 20) (o := ?o42) (v := ?v42) (listed' := ?l42) (a' := ?a42) ?hi42 (by kernel_rfl) (by kernel_rfl) (by kernel_rfl) ?hq42 ?hl42 ?hw42 ?hv42 ?ha42 HS0.out ?hh42
        case hi42 => (simp only [List.getElem?_toArray, List.getElem?_cons_succ, List.getElem?_cons_zero]; try rfl)
        case hq42 => exact fun _ _ _ h => h
        case hl42 => (simp only [List.setIfInBounds_toArray, List.set_cons_succ, List.set_cons_zero]; try rfl)
        case hw42 => rfl
        case hv42 =>
          intro W hW
          obtain ⟨r0, r1, r2, -⟩ := (HR7.out.on hW).cells
          go_simp
          try with_reducible rfl
        case ha42 => (simp only [Act.put, List.setIfInBounds_toArray, List.set_cons_succ, List.set_cons_zero]; try rfl)
        refine rh_takeS (i := 22) (o := ?o43) (v := ?v43) (listed' := ?l43) (a' := ?a43) ?hi43 (by kernel_rfl) (by kernel_rfl) (by kernel_rfl) ?hq43 ?hl43 ?hw43 ?hv43 ?ha43 HS0.out ?hh43
        case hi43 => (simp only [List.getElem?_toArray, List.getElem?_cons_succ, List.getElem?_cons_zero]; try rfl)
        case hq43 => exact fun _ _ _ h => h
        case hl43 => (simp only [List.setIfInBounds_toArray, List.set_cons_succ, List.set_cons_zero]; try rfl)
        case hw43 => rfl
        case hv43 =>
          intro W hW
          obtain ⟨r0, r1, r2, -⟩ := (HR7.out.on hW).cells
          go_simp
          try with_reducible rfl
        case ha43 => (simp only [Act.put, List.setIfInBounds_toArray, List.set_cons_succ, List.set_cons_zero]; try rfl)
        refine rh_takeS (i := 23) (o := ?o44) (v := ?v44) (listed' := ?l44) (a' := ?a44) ?hi44 (by kernel_rfl) (by kernel_rfl) (by kernel_rfl) ?hq44 ?hl44 ?hw44 ?hv44 ?ha44 HS0.out ?hh44
        case hi44 => (simp only [List.getElem?_toArray, List.getElem?_cons_succ, List.getElem?_cons_zero]; try rfl)
        case hq44 => exact fun _ _ _ h => h
        case hl44 => (simp only [List.setIfInBounds_toArray, List.set_cons_succ, List.set_cons_zero]; try rfl)
        case hw44 => rfl
        case hv44 =>
          intro W hW
          obtain ⟨r0, r1, r2, -⟩ := (HR7.out.on hW).cells
          go_simp
          try with_reducible rfl
        case ha44 => (simp only [Act.put, List.setIfInBounds_toArray, List.set_cons_succ, List.set_cons_zero]; try rfl)
        refine rh_takeS (i := 24) (o := ?o45) (v := ?v45) (listed' := ?l45) (a' := ?a45) ?hi45 (by kernel_rfl) (by kernel_rfl) (by kernel_rfl) ?hq45 ?hl45 ?hw45 ?hv45 ?ha45 HS0.out ?hh45
        case hi45 => (simp only [List.getElem?_toArray, List.getElem?_cons_succ, List.getElem?_cons_zero]; try rfl)
        case hq45 => exact fun _ _ _ h => h
        case hl45 => (simp only [List.setIfInBounds_toArray, List.set_cons_succ, List.set_cons_zero]; try rfl)
        case hw45 => rfl
        case hv45 =>
          intro W hW
          obtain ⟨r0, r1, r2, -⟩ := (HR7.out.on hW).cells
          go_simp
          try with_reducible rfl
        case ha45 => (simp only [Act.put, List.setIfInBounds_toArray, List.set_cons_succ, List.set_cons_zero]; try rfl)
        refine rh_takeS (i := 25) (o := ?o46) (v := ?v46) (listed' := ?l46) (a' := ?a46) ?hi46 (by kernel_rfl) (by kernel_rfl) (by kernel_rfl) ?hq46 ?hl46 ?hw46 ?hv46 ?ha46 HS0.out ?hh46
        case hi46 => (simp only [List.getElem?_toArray, List.getElem?_cons_succ, List.getElem?_cons_zero]; try rfl)
        case hq46 => exact fun _ _ _ h => h
        case hl46 => (simp only [List.setIfInBounds_toArray, List.set_cons_succ, List.set_cons_zero]; try rfl)
        case hw46 => rfl
        case hv46 =>
          intro W hW
          obtain ⟨r0, r1, r2, -⟩ := (HR7.out.on hW).cells
          go_simp
          try with_reducible rfl
        case ha46 => (simp only [Act.put, List.setIfInBounds_toArray, List.set_cons_succ, List.set_cons_zero]; try rfl)
        refine wpAnyH_ready (rs := [21]) (by kernel_rfl) (by simp) ?_
        refine rh_consW (i := 21) (o := ?o47) (listed' := ?l47) ?hi47 ?hl47 ?hg47 ?hh47 ?hs47
        case hi47 => (simp only [List.getElem?_toArray, List.getElem?_cons_succ, List.getElem?_cons_zero]; try rfl)
        case hl47 => (simp only [List.setIfInBounds_toArray, List.set_cons_succ, List.set_cons_zero]; try rfl)
        case hg47 => rfl
        case hs47 => exact AllReadyH.nil
        intro K hK
        go_simp
        refine (cNode (HI7.out.on HS0.out)).mono ?_
        rintro z wa ⟨rfl, rfl⟩
        refine hK.out _ _ HS0.out ?_
        clear hK K
        refine rh_takeS (i := 26) (o := ?o48) (v := ?v48) (listed' := ?l48) (a' := ?a48) ?hi48 (by kernel_rfl) (by kernel_rfl) (by kernel_rfl) ?hq48 ?hl48 ?hw48 ?hv48 ?ha48 HS0.out ?hh48
        case hi48 => (simp only [List.getElem?_toArray, List.getElem?_cons_succ, List.getElem?_cons_zero]; try rfl)
        case hq48 => exact fun _ _ _ h => h
        case hl48 => (simp only [List.setIfInBounds_toArray, List.set_cons_succ, List.set_cons_zero]; try rfl)
        case hw48 => rfl
        case hv48 =>
          intro W hW
          obtain ⟨r0, r1, r2, -⟩ := (HR7.out.on hW).cells
          go_simp
          try with_reducible rfl
        case ha48 => (simp only [Act.put, List.setIfInBounds_toArray, List.set_cons_succ, List.set_cons_zero]; try rfl)
        refine rh_takeS (i := 27) (o := ?o49) (v := ?v49) (listed' := ?l49) (a' := ?a49) ?hi49 (by kernel_rfl) (by kernel_rfl) (by kernel_rfl) ?hq49 ?hl49 ?hw49 ?hv49 ?ha49 HS0.out ?hh49
        case hi49 => (simp only [List.getElem?_toArray, List.getElem?_cons_succ, List.getElem?_cons_zero]; try rfl)
        case hq49 => exact fun _ _ _ h => h
        case hl49 => (simp only [List.setIfInBounds_toArray, List.set_cons_succ, List.set_cons_zero]; try rfl)
        case hw49 => rfl
        case hv49 =>
          intro W hW
          obtain ⟨r0, r1, r2, -⟩ := (HR7.out.on hW).cells
          go_simp
          try with_reducible rfl
        case ha49 => (simp only [Act.put, List.setIfInBounds_toArray, List.set_cons_succ, List.set_cons_zero]; try rfl)
        refine wpAnyH_done (by kernel_rfl) ?_ _
        have HP8 := hid (HP7.out.on HS0.out)
        have HB8 := hid (HB7.out.trans (HS0.out.mono HB7.out.size))
        clear HP7 HB7 HI7 HR7 HS0
        go_wp2_with fail
        go_roundw
        case rel => exact ⟨k + 1, c1, xs1, by omega, by have := HA40.out; omega, by go_num, HP8, HB8⟩
        case measure => simp [RowKit.intOf]; omega
      have hkk : ¬ ((k : Int) < m) := by omega
      go_wp2_with fail
      go_at_call 16
      refine (cSee_nil 16 wr).mono ?_
      rintro e we ⟨rfl, rfl⟩
      go_wp2_with fail
      go_at_call 17
      refine (cTick_nil _).mono ?_
      rintro e we ⟨rfl, rfl⟩
      go_wp2_with fail
      go_at_call 18
      refine (cGet_nil _ _).mono ?_
      rintro e wg ⟨rfl, hB⟩
      have HBg := hid (HB.out.trans (hB.mono HB.out.size))
      clear hB
      go_wp2_with (first
        | ((with_reducible refine storeC (x := ?sx49) (y := ?sy49) (b := wg.heap.size) (T := 44) zE ?sg49 ?so49 ?sxx49 ?syy49 ?sc49 ?sh49); (case sg49 => rfl); (case so49 => rfl); (case sxx49 => rfl); (case syy49 => rfl); (case sc49 => exact Ob.room (e := zE) (laid1_0 wg zeroEc)); intro wt hO hU; have HBt := hid (HBg.out.trans (((laid1_b wg zeroEc).trans (hU.below wg.heap.size (Nat.le_refl _))).mono HBg.out.size)); clear hO hU)
        | fail)
      have HO5 := hid (heap_alloc_new wt (.cells #[.int .i64 16, .int .i64 1, .int .i64 0, .int .i64 16, .int .i64 0, .int .i64 0, .int .i64 0] 40))
      have HB5 := hid (HBt.out.trans ((laid1_b wt (.cells #[.int .i64 16, .int .i64 1, .int .i64 0, .int .i64 16, .int .i64 0, .int .i64 0, .int .i64 0] 40)).mono HBt.out.size))
      generalize wt.alloc (.cells #[.int .i64 16, .int .i64 1, .int .i64 0, .int .i64 16, .int .i64 0, .int .i64 0, .int .i64 0] 40) = W5 at HO5 HB5 ⊢
      have HFT : Hid (∀ W, Below W5.heap.size W5 W → W.cell? ⟨wt.heap.size, 0, none⟩ = some (.int .i64 16) ∧ W.cell? ⟨wt.heap.size, 1, none⟩ = some (.int .i64 1) ∧ W.cell? ⟨wt.heap.size, 2, none⟩ = some (.int .i64 0) ∧ W.cell? ⟨wt.heap.size, 3, none⟩ = some (.int .i64 16) ∧ W.cell? ⟨wt.heap.size, 4, none⟩ = some (.int .i64 0) ∧ W.cell? ⟨wt.heap.size, 5, none⟩ = some (.int .i64 0) ∧ W.cell? ⟨wt.heap.size, 6, none⟩ = some (.int .i64 0)) := hid fun W hW => by
        have h0 := heapB HO5.out hW (Array.getElem?_eq_some_iff.1 HO5.out).1
        exact ⟨(cellAt' h0 0).trans rfl, (cellAt' h0 1).trans rfl, (cellAt' h0 2).trans rfl, (cellAt' h0 3).trans rfl, (cellAt' h0 4).trans rfl, (cellAt' h0 5).trans rfl, (cellAt' h0 6).trans rfl⟩
      refine rh_start (S := fun W => Below W5.heap.size W5 W) (n := 29) (listed := #[false, false, false, false, false, false, false, false, false, false, false, false, false, false, false, false, false, false, false, false, false, false, false, false, false, false, false, false, false]) (by kernel_rfl) rfl rfl ?_
      have HS0 : Hid (Below W5.heap.size W5 W5.drew) := hid (belowDrew (Below.refl _ W5))
      generalize World.drew W5 = wd at HS0 ⊢
      refine rh_takeS (i := 0) (o := ?o50) (v := ?v50) (listed' := ?l50) (a' := ?a50) ?hi50 (by kernel_rfl) (by kernel_rfl) (by kernel_rfl) ?hq50 ?hl50 ?hw50 ?hv50 ?ha50 HS0.out ?hh50
      case hi50 => (simp only [List.getElem?_toArray, List.getElem?_cons_zero]; try rfl)
      case hq50 => exact fun _ _ _ h => h
      case hl50 => (simp only [List.setIfInBounds_toArray, List.set_cons_zero]; try rfl)
      case hw50 => rfl
      case hv50 =>
        intro W hW
        obtain ⟨d0, d1, d2, d3, d4, d5, d6⟩ := HFT.out W hW
        go_simp
        try with_reducible rfl
      case ha50 => (simp only [Act.put, List.setIfInBounds_toArray, List.set_cons_succ, List.set_cons_zero]; try rfl)
      refine rh_takeS (i := 3) (o := ?o51) (v := ?v51) (listed' := ?l51) (a' := ?a51) ?hi51 (by kernel_rfl) (by kernel_rfl) (by kernel_rfl) ?hq51 ?hl51 ?hw51 ?hv51 ?ha51 HS0.out ?hh51
      case hi51 => (simp only [List.getElem?_toArray, List.getElem?_cons_succ, List.getElem?_cons_zero]; try rfl)
      case hq51 => exact fun _ _ _ h => h
      case hl51 => (simp only [List.setIfInBounds_toArray, List.set_cons_succ, List.set_cons_zero]; try rfl)
      case hw51 => rfl
      case hv51 =>
        intro W hW
        obtain ⟨d0, d1, d2, d3, d4, d5, d6⟩ := HFT.out W hW
        go_simp
        try with_reducible rfl
      case ha51 => (simp only [Act.put, List.setIfInBounds_toArray, List.set_cons_succ, List.set_cons_zero]; try rfl)
      refine rh_takeS (i := 4) (o := ?o52) (v := ?v52) (listed' := ?l52) (a' := ?a52) ?hi52 (by kernel_rfl) (by kernel_rfl) (by kernel_rfl) ?hq52 ?hl52 ?hw52 ?hv52 ?ha52 HS0.out ?hh52
      case hi52 => (simp only [List.getElem?_toArray, List.getElem?_cons_succ, List.getElem?_cons_zero]; try rfl)
      case hq52 => exact fun _ _ _ h => h
      case hl52 => (simp only [List.setIfInBounds_toArray, List.set_cons_succ, List.set_cons_zero]; try rfl)
      case hw52 => rfl
      case hv52 =>
        intro W hW
        obtain ⟨d0, d1, d2, d3, d4, d5, d6⟩ := HFT.out W hW
        go_simp
        try with_reducible rfl
      case ha52 => (simp only [Act.put, List.setIfInBounds_toArray, List.set_cons_succ, List.set_cons_zero]; try rfl)
      refine rh_takeS (i := 8) (o := ?o53) (v := ?v53) (listed' := ?l53) (a' := ?a53) ?hi53 (by kernel_rfl) (by kernel_rfl) (by kernel_rfl) ?hq53 ?hl53 ?hw53 ?hv53 ?ha53 HS0.out ?hh53
      case hi53 => (simp only [List.getElem?_toArray, List.getElem?_cons_succ, List.getElem?_cons_zero]; try rfl)
      case hq53 => exact fun _ _ _ h => h
      case hl53 => (simp only [List.setIfInBounds_toArray, List.set_cons_succ, List.set_cons_zero]; try rfl)
      case hw53 => rfl
      case hv53 =>
        intro W hW
        obtain ⟨d0, d1, d2, d3, d4, d5, d6⟩ := HFT.out W hW
        go_simp
        try with_reducible rfl
      case ha53 => (simp only [Act.put, List.setIfInBounds_toArray, List.set_cons_succ, List.set_cons_zero]; try rfl)
      refine rh_takeS (i := 9) (o := ?o54) (v := ?v54) (listed' := ?l54) (a' := ?a54) ?hi54 (by kernel_rfl) (by kernel_rfl) (by kernel_rfl) ?hq54 ?hl54 ?hw54 ?hv54 ?ha54 HS0.out ?hh54
      case hi54 => (simp only [List.getElem?_toArray, List.getElem?_cons_succ, List.getElem?_cons_zero]; try rfl)
      case hq54 => exact fun _ _ _ h => h
      case hl54 => (simp only [List.setIfInBounds_toArray, List.set_cons_succ, List.set_cons_zero]; try rfl)
      case hw54 => rfl
      case hv54 =>
        intro W hW
        obtain ⟨d0, d1, d2, d3, d4, d5, d6⟩ := HFT.out W hW
        go_simp
        try with_reducible rfl
      case ha54 => (simp only [Act.put, List.setIfInBounds_toArray, List.set_cons_succ, List.set_cons_zero]; try rfl)
      refine rh_takeS (i := 13) (o := ?o55) (v := ?v55) (listed' := ?l55) (a' := ?a55) ?hi55 (by kernel_rfl) (by kernel_rfl) (by kernel_rfl) ?hq55 ?hl55 ?hw55 ?hv55 ?ha55 HS0.out ?hh55
      case hi55 => (simp only [List.getElem?_toArray, List.getElem?_cons_succ, List.getElem?_cons_zero]; try rfl)
      case hq55 => exact fun _ _ _ h => h
      case hl55 => (simp only [List.setIfInBounds_toArray, List.set_cons_succ, List.set_cons_zero]; try rfl)
      case hw55 => rfl
      case hv55 =>
        intro W hW
        obtain ⟨d0, d1, d2, d3, d4, d5, d6⟩ := HFT.out W hW
        go_simp
        try with_reducible rfl
      case ha55 => (simp only [Act.put, List.setIfInBounds_toArray, List.set_cons_succ, List.set_cons_zero]; try rfl)
      refine rh_takeS (i := 14) (o := ?o56) (v := ?v56) (listed' := ?l56) (a' := ?a56) ?hi56 (by kernel_rfl) (by kernel_rfl) (by kernel_rfl) ?hq56 ?hl56 ?hw56 ?hv56 ?ha56 HS0.out ?hh56
      case hi56 => (simp only [List.getElem?_toArray, List.getElem?_cons_succ, List.getElem?_cons_zero]; try rfl)
      case hq56 => exact fun _ _ _ h => h
      case hl56 => (simp only [List.setIfInBounds_toArray, List.set_cons_succ, List.set_cons_zero]; try rfl)
      case hw56 => rfl
      case hv56 =>
        intro W hW
        obtain ⟨d0, d1, d2, d3, d4, d5, d6⟩ := HFT.out W hW
        go_simp
        try with_reducible rfl
      case ha56 => (simp only [Act.put, List.setIfInBounds_toArray, List.set_cons_succ, List.set_cons_zero]; try rfl)
      refine rh_takeS (i := 18) (o := ?o57) (v := ?v57) (listed' := ?l57) (a' := ?a57) ?hi57 (by kernel_rfl) (by kernel_rfl) (by kernel_rfl) ?hq57 ?hl57 ?hw57 ?hv57 ?ha57 HS0.out ?hh57
      case hi57 => (simp only [List.getElem?_toArray, List.getElem?_cons_succ, List.getElem?_cons_zero]; try rfl)
      case hq57 => exact fun _ _ _ h => h
      case hl57 => (simp only [List.setIfInBounds_toArray, List.set_cons_succ, List.set_cons_zero]; try rfl)
      case hw57 => rfl
      case hv57 =>
        intro W hW
        obtain ⟨d0, d1, d2, d3, d4, d5, d6⟩ := HFT.out W hW
        go_simp
        try with_reducible rfl
      case ha57 => (simp only [Act.put, List.setIfInBounds_toArray, List.set_cons_succ, List.set_cons_zero]; try rfl)
      refine rh_takeS (i := 19) (o := ?o58) (v := ?v58) (listed' := ?l58) (a' := ?a58) ?hi58 (by kernel_rfl) (by kernel_rfl) (by kernel_rfl) ?hq58 ?hl58 ?hw58 ?hv58 ?ha58 HS0.out ?hh58
      case hi58 => (simp only [List.getElem?_toArray, List.getElem?_cons_succ, List.getElem?_cons_zero]; try rfl)
      case hq58 => exact fun _ _ _ h => h
      case hl58 => (simp only [List.setIfInBounds_toArray, List.set_cons_succ, List.set_cons_zero]; try rfl)
      case hw58 => rfl
      case hv58 =>
        intro W hW
        obtain ⟨d0, d1, d2, d3, d4, d5, d6⟩ := HFT.out W hW
        go_simp
        try with_reducible rfl
      case ha58 => (simp only [Act.put, List.setIfInBounds_toArray, List.set_cons_succ, List.set_cons_zero]; try rfl)
      refine rh_takeS (i := 23) (o := ?o59) (v := ?v59) (listed' := ?l59) (a' := ?a59) ?hi59 (by kernel_rfl) (by kernel_rfl) (by kernel_rfl) ?hq59 ?hl59 ?hw59 ?hv59 ?ha59 HS0.out ?hh59
      case hi59 => (simp only [List.getElem?_toArray, List.getElem?_cons_succ, List.getElem?_cons_zero]; try rfl)
      case hq59 => exact fun _ _ _ h => h
      case hl59 => (simp only [List.setIfInBounds_toArray, List.set_cons_succ, List.set_cons_zero]; try rfl)
      case hw59 => rfl
      case hv59 =>
        intro W hW
        obtain ⟨d0, d1, d2, d3, d4, d5, d6⟩ := HFT.out W hW
        go_simp
        try with_reducible rfl
      case ha59 => (simp only [Act.put, List.setIfInBounds_toArray, List.set_cons_succ, List.set_cons_zero]; try rfl)
      refine wpAnyH_ready (rs := [1]) (by kernel_rfl) (by simp) ?_
      refine rh_cons (i := 1) (o := ?o60) (listed' := ?l60) ?hi60 ?hl60 ?hg60 ?hh60 ?hs60
      case hi60 => (simp only [List.getElem?_toArray, List.getElem?_cons_succ, List.getElem?_cons_zero]; try rfl)
      case hl60 => (simp only [List.setIfInBounds_toArray, List.set_cons_succ, List.set_cons_zero]; try rfl)
      case hg60 => rfl
      case hs60 => exact AllReadyH.nil
      intro K hK
      go_simp
      refine (cAll_nil _).mono ?_
      rintro z wa ⟨rfl, rfl⟩
      refine hK.out _ _ HS0.out ?_
      clear hK K
      refine rh_takeS (i := 2) (o := ?o61) (v := ?v61) (listed' := ?l61) (a' := ?a61) ?hi61 (by kernel_rfl) (by kernel_rfl) (by kernel_rfl) ?hq61 ?hl61 ?hw61 ?hv61 ?ha61 HS0.out ?hh61
      case hi61 => (simp only [List.getElem?_toArray, List.getElem?_cons_succ, List.getElem?_cons_zero]; try rfl)
      case hq61 => exact fun _ _ _ h => h
      case hl61 => (simp only [List.setIfInBounds_toArray, List.set_cons_succ, List.set_cons_zero]; try rfl)
      case hw61 => rfl
      case hv61 =>
        intro W hW
        skip
        go_simp
        try with_reducible rfl
      case ha61 => (simp only [Act.put, List.setIfInBounds_toArray, List.set_cons_succ, List.set_cons_zero]; try rfl)
      refine wpAnyH_ready (rs := [5]) (by kernel_rfl) (by simp) ?_
      refine rh_cons (i := 5) (o := ?o62) (listed' := ?l62) ?hi62 ?hl62 ?hg62 ?hh62 ?hs62
      case hi62 => (simp only [List.getElem?_toArray, List.getElem?_cons_succ, List.getElem?_cons_zero]; try rfl)
      case hl62 => (simp only [List.setIfInBounds_toArray, List.set_cons_succ, List.set_cons_zero]; try rfl)
      case hg62 => rfl
      case hs62 => exact AllReadyH.nil
      intro K hK
      go_simp
      refine (cPred_nil cP16 1 _).mono ?_
      rintro z wa ⟨rfl, hB⟩
      have HS1 := hid (HS0.out.trans (hB.mono HS0.out.size))
      clear hB
      refine hK.out _ _ HS1.out ?_
      clear hK K
      refine rh_takeS (i := 6) (o := ?o63) (v := ?v63) (listed' := ?l63) (a' := ?a63) ?hi63 (by kernel_rfl) (by kernel_rfl) (by kernel_rfl) ?hq63 ?hl63 ?hw63 ?hv63 ?ha63 HS1.out ?hh63
      case hi63 => (simp only [List.getElem?_toArray, List.getElem?_cons_succ, List.getElem?_cons_zero]; try rfl)
      case hq63 => exact fun _ _ _ h => h
      case hl63 => (simp only [List.setIfInBounds_toArray, List.set_cons_succ, List.set_cons_zero]; try rfl)
      case hw63 => rfl
      case hv63 =>
        intro W hW
        skip
        go_simp
        try with_reducible rfl
      case ha63 => (simp only [Act.put, List.setIfInBounds_toArray, List.set_cons_succ, List.set_cons_zero]; try rfl)
      refine rh_takeS (i := 7) (o := ?o64) (v := ?v64) (listed' := ?l64) (a' := ?a64) ?hi64 (by kernel_rfl) (by kernel_rfl) (by kernel_rfl) ?hq64 ?hl64 ?hw64 ?hv64 ?ha64 HS1.out ?hh64
      case hi64 => (simp only [List.getElem?_toArray, List.getElem?_cons_succ, List.getElem?_cons_zero]; try rfl)
      case hq64 => exact fun _ _ _ h => h
      case hl64 => (simp only [List.setIfInBounds_toArray, List.set_cons_succ, List.set_cons_zero]; try rfl)
      case hw64 => rfl
      case hv64 =>
        intro W hW
        skip
        go_simp
        try with_reducible rfl
      case ha64 => (simp only [Act.put, List.setIfInBounds_toArray, List.set_cons_succ, List.set_cons_zero]; try rfl)
      refine wpAnyH_ready (rs := [10]) (by kernel_rfl) (by simp) ?_
      refine rh_cons (i := 10) (o := ?o65) (listed' := ?l65) ?hi65 ?hl65 ?hg65 ?hh65 ?hs65
      case hi65 => (simp only [List.getElem?_toArray, List.getElem?_cons_succ, List.getElem?_cons_zero]; try rfl)
      case hl65 => (simp only [List.setIfInBounds_toArray, List.set_cons_succ, List.set_cons_zero]; try rfl)
      case hg65 => rfl
      case hs65 => exact AllReadyH.nil
      intro K hK
      go_simp
      refine (cHolders_nil cP16 1 _).mono ?_
      rintro z wa2 ⟨v, rfl, hv, hB⟩
      have HS2 := hid (HS1.out.trans (hB.mono HS1.out.size))
      obtain ⟨vg, vc, vn, rfl, hvn⟩ := OwnI.asSlice' hv
      obtain rfl : vn = 0 := hvn
      clear hB hv
      refine hK.out _ _ HS2.out ?_
      clear hK K
      refine rh_takeS (i := 11) (o := ?o66) (v := ?v66) (listed' := ?l66) (a' := ?a66) ?hi66 (by kernel_rfl) (by kernel_rfl) (by kernel_rfl) ?hq66 ?hl66 ?hw66 ?hv66 ?ha66 HS2.out ?hh66
      case hi66 => (simp only [List.getElem?_toArray, List.getElem?_cons_succ, List.getElem?_cons_zero]; try rfl)
      case hq66 => exact fun _ _ _ h => h
      case hl66 => (simp only [List.setIfInBounds_toArray, List.set_cons_succ, List.set_cons_zero]; try rfl)
      case hw66 => rfl
      case hv66 =>
        intro W hW
        skip
        go_simp
        try with_reducible rfl
      case ha66 => (simp only [Act.put, List.setIfInBounds_toArray, List.set_cons_succ, List.set_cons_zero]; try rfl)
      refine rh_takeS (i := 12) (o := ?o67) (v := ?v67) (listed' := ?l67) (a' := ?a67) ?hi67 (by kernel_rfl) (by kernel_rfl) (by kernel_rfl) ?hq67 ?hl67 ?hw67 ?hv67 ?ha67 HS2.out ?hh67
      case hi67 => (simp only [List.getElem?_toArray, List.getElem?_cons_succ, List.getElem?_cons_zero]; try rfl)
      case hq67 => exact fun _ _ _ h => h
      case hl67 => (simp only [List.setIfInBounds_toArray, List.set_cons_succ, List.set_cons_zero]; try rfl)
      case hw67 => rfl
      case hv67 =>
        intro W hW
        skip
        go_simp
        try with_reducible rfl
      case ha67 => (simp only [Act.put, List.setIfInBounds_toArray, List.set_cons_succ, List.set_cons_zero]; try rfl)
      refine wpAnyH_ready (rs := [15]) (by kernel_rfl) (by simp) ?_
      refine rh_cons (i := 15) (o := ?o68) (listed' := ?l68) ?hi68 ?hl68 ?hg68 ?hh68 ?hs68
      case hi68 => (simp only [List.getElem?_toArray, List.getElem?_cons_succ, List.getElem?_cons_zero]; try rfl)
      case hl68 => (simp only [List.setIfInBounds_toArray, List.set_cons_succ, List.set_cons_zero]; try rfl)
      case hg68 => rfl
      case hs68 => exact AllReadyH.nil
      intro K hK
      go_simp
      refine (cKillers_nil cP16 1 _).mono ?_
      rintro z wa3 ⟨v, rfl, hv, hB⟩
      have HS3 := hid (HS2.out.trans (hB.mono HS2.out.size))
      obtain ⟨vg, vc, vn, rfl, hvn⟩ := OwnI.asSlice' hv
      obtain rfl : vn = 0 := hvn
      clear hB hv
      refine hK.out _ _ HS3.out ?_
      clear hK K
      refine rh_takeS (i := 16) (o := ?o69) (v := ?v69) (listed' := ?l69) (a' := ?a69) ?hi69 (by kernel_rfl) (by kernel_rfl) (by kernel_rfl) ?hq69 ?hl69 ?hw69 ?hv69 ?ha69 HS3.out ?hh69
      case hi69 => (simp only [List.getElem?_toArray, List.getElem?_cons_succ, List.getElem?_cons_zero]; try rfl)
      case hq69 => exact fun _ _ _ h => h
      case hl69 => (simp only [List.setIfInBounds_toArray, List.set_cons_succ, List.set_cons_zero]; try rfl)
      case hw69 => rfl
      case hv69 =>
        intro W hW
        skip
        go_simp
        try with_reducible rfl
      case ha69 => (simp only [Act.put, List.setIfInBounds_toArray, List.set_cons_succ, List.set_cons_zero]; try rfl)
      refine rh_takeS (i := 17) (o := ?o70) (v := ?v70) (listed' := ?l70) (a' := ?a70) ?hi70 (by kernel_rfl) (by kernel_rfl) (by kernel_rfl) ?hq70 ?hl70 ?hw70 ?hv70 ?ha70 HS3.out ?hh70
      case hi70 => (simp only [List.getElem?_toArray, List.getElem?_cons_succ, List.getElem?_cons_zero]; try rfl)
      case hq70 => exact fun _ _ _ h => h
      case hl70 => (simp only [List.setIfInBounds_toArray, List.set_cons_succ, List.set_cons_zero]; try rfl)
      case hw70 => rfl
      case hv70 =>
        intro W hW
        skip
        go_simp
        try with_reducible rfl
      case ha70 => (simp only [Act.put, List.setIfInBounds_toArray, List.set_cons_succ, List.set_cons_zero]; try rfl)
      refine wpAnyH_ready (rs := [20]) (by kernel_rfl) (by simp) ?_
      refine rh_cons (i := 20) (o := ?o71) (listed' := ?l71) ?hi71 ?hl71 ?hg71 ?hh71 ?hs71
      case hi71 => (simp only [List.getElem?_toArray, List.getElem?_cons_succ, List.getElem?_cons_zero]; try rfl)
      case hl71 => (simp only [List.setIfInBounds_toArray, List.set_cons_succ, List.set_cons_zero]; try rfl)
      case hg71 => rfl
      case hs71 => exact AllReadyH.nil
      intro K hK
      go_simp
      refine (cAbsent_nil cP16 1 none 0 0 true _).mono ?_
      rintro z wa4 ⟨v, rfl, hv, hB⟩
      have HS4 := hid (HS3.out.trans (hB.mono HS3.out.size))
      obtain ⟨vg, vc, vn, rfl, hvn⟩ := OwnI.asSlice' hv
      obtain rfl : vn = 0 := hvn
      clear hB hv
      refine hK.out _ _ HS4.out ?_
      clear hK K
      refine rh_takeS (i := 21) (o := ?o72) (v := ?v72) (listed' := ?l72) (a' := ?a72) ?hi72 (by kernel_rfl) (by kernel_rfl) (by kernel_rfl) ?hq72 ?hl72 ?hw72 ?hv72 ?ha72 HS4.out ?hh72
      case hi72 => (simp only [List.getElem?_toArray, List.getElem?_cons_succ, List.getElem?_cons_zero]; try rfl)
      case hq72 => exact fun _ _ _ h => h
      case hl72 => (simp only [List.setIfInBounds_toArray, List.set_cons_succ, List.set_cons_zero]; try rfl)
      case hw72 => rfl
      case hv72 =>
        intro W hW
        skip
        go_simp
        try with_reducible rfl
      case ha72 => (simp only [Act.put, List.setIfInBounds_toArray, List.set_cons_succ, List.set_cons_zero]; try rfl)
      refine rh_takeS (i := 22) (o := ?o73) (v := ?v73) (listed' := ?l73) (a' := ?a73) ?hi73 (by kernel_rfl) (by kernel_rfl) (by kernel_rfl) ?hq73 ?hl73 ?hw73 ?hv73 ?ha73 HS4.out ?hh73
      case hi73 => (simp only [List.getElem?_toArray, List.getElem?_cons_succ, List.getElem?_cons_zero]; try rfl)
      case hq73 => exact fun _ _ _ h => h
      case hl73 => (simp only [List.setIfInBounds_toArray, List.set_cons_succ, List.set_cons_zero]; try rfl)
      case hw73 => rfl
      case hv73 =>
        intro W hW
        skip
        go_simp
        try with_reducible rfl
      case ha73 => (simp only [Act.put, List.setIfInBounds_toArray, List.set_cons_succ, List.set_cons_zero]; try rfl)
      refine wpAnyH_ready (rs := [24]) (by kernel_rfl) (by simp) ?_
      refine rh_cons (i := 24) (o := ?o74) (listed' := ?l74) ?hi74 ?hl74 ?hg74 ?hh74 ?hs74
      case hi74 => (simp only [List.getElem?_toArray, List.getElem?_cons_succ, List.getElem?_cons_zero]; try rfl)
      case hl74 => (simp only [List.setIfInBounds_toArray, List.set_cons_succ, List.set_cons_zero]; try rfl)
      case hg74 => rfl
      case hs74 => exact AllReadyH.nil
      intro K hK
      go_simp
      refine (cChanged_nil _).mono ?_
      rintro z wa ⟨rfl, rfl⟩
      refine hK.out _ _ HS4.out ?_
      clear hK K
      refine rh_takeS (i := 25) (o := ?o75) (v := ?v75) (listed' := ?l75) (a' := ?a75) ?hi75 (by kernel_rfl) (by kernel_rfl) (by kernel_rfl) ?hq75 ?hl75 ?hw75 ?hv75 ?ha75 HS4.out ?hh75
      case hi75 => (simp only [List.getElem?_toArray, List.getElem?_cons_succ, List.getElem?_cons_zero]; try rfl)
      case hq75 => exact fun _ _ _ h => h
      case hl75 => (simp only [List.setIfInBounds_toArray, List.set_cons_succ, List.set_cons_zero]; try rfl)
      case hw75 => rfl
      case hv75 =>
        intro W hW
        skip
        go_simp
        try with_reducible rfl
      case ha75 => (simp only [Act.put, List.setIfInBounds_toArray, List.set_cons_succ, List.set_cons_zero]; try rfl)
      refine rh_takeS (i := 26) (o := ?o76) (v := ?v76) (listed' := ?l76) (a' := ?a76) ?hi76 (by kernel_rfl) (by kernel_rfl) (by kernel_rfl) ?hq76 ?hl76 ?hw76 ?hv76 ?ha76 HS4.out ?hh76
      case hi76 => (simp only [List.getElem?_toArray, List.getElem?_cons_succ, List.getElem?_cons_zero]; try rfl)
      case hq76 => exact fun _ _ _ h => h
      case hl76 => (simp only [List.setIfInBounds_toArray, List.set_cons_succ, List.set_cons_zero]; try rfl)
      case hw76 => rfl
      case hv76 =>
        intro W hW
        skip
        go_simp
        try with_reducible rfl
      case ha76 => (simp only [Act.put, List.setIfInBounds_toArray, List.set_cons_succ, List.set_cons_zero]; try rfl)
      refine rh_takeS (i := 27) (o := ?o77) (v := ?v77) (listed' := ?l77) (a' := ?a77) ?hi77 (by kernel_rfl) (by kernel_rfl) (by kernel_rfl) ?hq77 ?hl77 ?hw77 ?hv77 ?ha77 HS4.out ?hh77
      case hi77 => (simp only [List.getElem?_toArray, List.getElem?_cons_succ, List.getElem?_cons_zero]; try rfl)
      case hq77 => exact fun _ _ _ h => h
      case hl77 => (simp only [List.setIfInBounds_toArray, List.set_cons_succ, List.set_cons_zero]; try rfl)
      case hw77 => rfl
      case hv77 =>
        intro W hW
        skip
        go_simp
        try with_reducible rfl
      case ha77 => (simp only [Act.put, List.setIfInBounds_toArray, List.set_cons_succ, List.set_cons_zero]; try rfl)
      refine rh_takeS (i := 28) (o := ?o78) (v := ?v78) (listed' := ?l78) (a' := ?a78) ?hi78 (by kernel_rfl) (by kernel_rfl) (by kernel_rfl) ?hq78 ?hl78 ?hw78 ?hv78 ?ha78 HS4.out ?hh78
      case hi78 => (simp only [List.getElem?_toArray, List.getElem?_cons_succ, List.getElem?_cons_zero]; try rfl)
      case hq78 => exact fun _ _ _ h => h
      case hl78 => (simp only [List.setIfInBounds_toArray, List.set_cons_succ, List.set_cons_zero]; try rfl)
      case hw78 => rfl
      case hv78 =>
        intro W hW
        skip
        go_simp
        try with_reducible rfl
      case ha78 => (simp only [Act.put, List.setIfInBounds_toArray, List.set_cons_succ, List.set_cons_zero]; try rfl)
      refine wpAnyH_done (by kernel_rfl) ?_ _
      have HB6 := hid (HB5.out.trans (HS4.out.mono HB5.out.size))
      have HO6 := hid (heapB HO5.out HS4.out (Array.getElem?_eq_some_iff.1 HO5.out).1)
      clear HS0 HS1 HS2 HS3 HS4 HFT HO5 HB5
      go_wp2_with fail
      go_at_call 6
      refine (HIA.out _).mono ?_
      rintro e w7 ⟨rfl, hB⟩
      have HB7 := hid (HB6.out.trans (hB.mono HB6.out.size))
      have HO7 := hid (heapB HO6.out hB (Array.getElem?_eq_some_iff.1 HO6.out).1)
      clear hB HO6 HB6
      go_wp2_with fail
      go_at_call 24
      refine (cLearn_nil _).mono ?_
      rintro e we ⟨rfl, rfl⟩
      have d0 : w7.cell? ⟨wt.heap.size, 0, none⟩ = some (.int .i64 16) := (cellAt' HO7.out 0).trans rfl
      have d1 : w7.cell? ⟨wt.heap.size, 1, none⟩ = some (.int .i64 1) := (cellAt' HO7.out 1).trans rfl
      have d2 : w7.cell? ⟨wt.heap.size, 2, none⟩ = some (.int .i64 0) := (cellAt' HO7.out 2).trans rfl
      have d3 : w7.cell? ⟨wt.heap.size, 3, none⟩ = some (.int .i64 16) := (cellAt' HO7.out 3).trans rfl
      have d4 : w7.cell? ⟨wt.heap.size, 4, none⟩ = some (.int .i64 0) := (cellAt' HO7.out 4).trans rfl
      have d5 : w7.cell? ⟨wt.heap.size, 5, none⟩ = some (.int .i64 0) := (cellAt' HO7.out 5).trans rfl
      have d6 : w7.cell? ⟨wt.heap.size, 6, none⟩ = some (.int .i64 0) := (cellAt' HO7.out 6).trans rfl
      go_wp2_with (first
        | ((with_reducible refine wpList_buildG (x := ?bx78) ?bg78 ?bo78 ?b178 ?bh78); (case bg78 => rfl); (case bo78 => rfl); (case b178 => rfl))
        | fail)
      go_at_call 25
      refine (cPut_nil (newE cP16) _).mono ?_
      rintro e w8 ⟨rfl, hB⟩
      have HB8 := hid (HB7.out.trans (hB.mono HB7.out.size))
      clear hB HO7 HB7 d0 d1 d2 d3 d4 d5 d6
      go_wp2_with fail
      go_at_call 15
      refine (cNode_nil _).mono ?_
      rintro e we ⟨rfl, rfl⟩
      go_wp2_with fail
      go_at_call 14
      refine (cClock_nil _).mono ?_
      rintro e we ⟨rfl, rfl⟩
      go_wp2_with fail
      go_ret
      exact ⟨rfl, HB8.out⟩
  · rw [if_neg (by decide)] at hif
    obtain rfl := hif
    go_wp2_with fail
    have HFA : Hid (∀ W, Below w2.heap.size w2 W → W.cell? ⟨w.heap.size, 0, none⟩ = some (.int .i64 nd) ∧ W.cell? ⟨w.heap.size, 1, none⟩ = some (.int .i64 c)) := hid fun W hW => by
      have h0 := heapB HO2.out hW (Array.getElem?_eq_some_iff.1 HO2.out).1
      exact ⟨(cellAt' h0 0).trans rfl, (cellAt' h0 1).trans rfl⟩
    refine rh_start (S := fun W => Below w2.heap.size w2 W) (n := 12) (listed := #[false, false, false, false, false, false, false, false, false, false, false, false]) (by kernel_rfl) rfl rfl ?_
    have HS0 : Hid (Below w2.heap.size w2 w2.drew) := hid (belowDrew (Below.refl _ _))
    generalize World.drew w2 = wd at HS0 ⊢
    refine rh_takeS (i := 0) (o := ?o79) (v := ?v79) (listed' := ?l79) (a' := ?a79) ?hi79 (by kernel_rfl) (by kernel_rfl) (by kernel_rfl) ?hq79 ?hl79 ?hw79 ?hv79 ?ha79 HS0.out ?hh79
    case hi79 => (simp only [List.getElem?_toArray, List.getElem?_cons_zero]; try rfl)
    case hq79 => exact fun _ _ _ h => h
    case hl79 => (simp only [List.setIfInBounds_toArray, List.set_cons_zero]; try rfl)
    case hw79 => rfl
    case hv79 =>
      intro W hW
      obtain ⟨k0, k1⟩ := HFA.out W hW
      go_simp
      try with_reducible rfl
    case ha79 => (simp only [Act.put, List.setIfInBounds_toArray, List.set_cons_succ, List.set_cons_zero]; try rfl)
    refine rh_takeS (i := 1) (o := ?o80) (v := ?v80) (listed' := ?l80) (a' := ?a80) ?hi80 (by kernel_rfl) (by kernel_rfl) (by kernel_rfl) ?hq80 ?hl80 ?hw80 ?hv80 ?ha80 HS0.out ?hh80
    case hi80 => (simp only [List.getElem?_toArray, List.getElem?_cons_succ, List.getElem?_cons_zero]; try rfl)
    case hq80 => exact fun _ _ _ h => h
    case hl80 => (simp only [List.setIfInBounds_toArray, List.set_cons_succ, List.set_cons_zero]; try rfl)
    case hw80 => rfl
    case hv80 =>
      intro W hW
      obtain ⟨k0, k1⟩ := HFA.out W hW
      go_simp
      try with_reducible rfl
    case ha80 => (simp only [Act.put, List.setIfInBounds_toArray, List.set_cons_succ, List.set_cons_zero]; try rfl)
    refine rh_takeS (i := 2) (o := ?o81) (v := ?v81) (listed' := ?l81) (a' := ?a81) ?hi81 (by kernel_rfl) (by kernel_rfl) (by kernel_rfl) ?hq81 ?hl81 ?hw81 ?hv81 ?ha81 HS0.out ?hh81
    case hi81 => (simp only [List.getElem?_toArray, List.getElem?_cons_succ, List.getElem?_cons_zero]; try rfl)
    case hq81 => exact fun _ _ _ h => h
    case hl81 => (simp only [List.setIfInBounds_toArray, List.set_cons_succ, List.set_cons_zero]; try rfl)
    case hw81 => rfl
    case hv81 =>
      intro W hW
      obtain ⟨k0, k1⟩ := HFA.out W hW
      go_simp
      try with_reducible rfl
    case ha81 => (simp only [Act.put, List.setIfInBounds_toArray, List.set_cons_succ, List.set_cons_zero]; try rfl)
    refine rh_takeS (i := 3) (o := ?o82) (v := ?v82) (listed' := ?l82) (a' := ?a82) ?hi82 (by kernel_rfl) (by kernel_rfl) (by kernel_rfl) ?hq82 ?hl82 ?hw82 ?hv82 ?ha82 HS0.out ?hh82
    case hi82 => (simp only [List.getElem?_toArray, List.getElem?_cons_succ, List.getElem?_cons_zero]; try rfl)
    case hq82 => exact fun _ _ _ h => h
    case hl82 => (simp only [List.setIfInBounds_toArray, List.set_cons_succ, List.set_cons_zero]; try rfl)
    case hw82 => rfl
    case hv82 =>
      intro W hW
      obtain ⟨k0, k1⟩ := HFA.out W hW
      go_simp
      try with_reducible rfl
    case ha82 => (simp only [Act.put, List.setIfInBounds_toArray, List.set_cons_succ, List.set_cons_zero]; try rfl)
    refine rh_takeS (i := 4) (o := ?o83) (v := ?v83) (listed' := ?l83) (a' := ?a83) ?hi83 (by kernel_rfl) (by kernel_rfl) (by kernel_rfl) ?hq83 ?hl83 ?hw83 ?hv83 ?ha83 HS0.out ?hh83
    case hi83 => (simp only [List.getElem?_toArray, List.getElem?_cons_succ, List.getElem?_cons_zero]; try rfl)
    case hq83 => exact fun _ _ _ h => h
    case hl83 => (simp only [List.setIfInBounds_toArray, List.set_cons_succ, List.set_cons_zero]; try rfl)
    case hw83 => rfl
    case hv83 =>
      intro W hW
      obtain ⟨k0, k1⟩ := HFA.out W hW
      go_simp
      try with_reducible rfl
    case ha83 => (simp only [Act.put, List.setIfInBounds_toArray, List.set_cons_succ, List.set_cons_zero]; try rfl)
    refine wpAnyH_ready (rs := [5]) (by kernel_rfl) (by simp) ?_
    refine rh_cons (i := 5) (o := ?o84) (listed' := ?l84) ?hi84 ?hl84 ?hg84 ?hh84 ?hs84
    case hi84 => (simp only [List.getElem?_toArray, List.getElem?_cons_succ, List.getElem?_cons_zero]; try rfl)
    case hl84 => (simp only [List.setIfInBounds_toArray, List.set_cons_succ, List.set_cons_zero]; try rfl)
    case hg84 => rfl
    case hs84 => exact AllReadyH.nil
    intro K hK
    go_simp
    refine (rOf ((HSE.out.on HB2.out).on HS0.out) (by have := HL40.out; simp; omega)).mono ?_
    rintro z wa ⟨va, rfl, hv, hB⟩
    have HSa := hid (HS0.out.trans (hB.mono HS0.out.size))
    have HVa := hid (OwnG.slG kE hv)
    clear hv hB
    refine hK.out _ _ HSa.out ?_
    clear hK K
    refine wpAnyH_ready (rs := [6]) (by kernel_rfl) (by simp) ?_
    refine rh_cons (i := 6) (o := ?o85) (listed' := ?l85) ?hi85 ?hl85 ?hg85 ?hh85 ?hs85
    case hi85 => (simp only [List.getElem?_toArray, List.getElem?_cons_succ, List.getElem?_cons_zero]; try rfl)
    case hl85 => (simp only [List.setIfInBounds_toArray, List.set_cons_succ, List.set_cons_zero]; try rfl)
    case hg85 => rfl
    case hs85 => exact AllReadyH.nil
    intro K hK
    have hq := rINew HVa.out ((HAA.out.on HB2.out).on HSa.out) (fun y hy => short_mono (HSH.out y hy) (by decide)) (by have := HL40.out; omega) nd c HRR.out
    go_simp
    refine hq.mono ?_
    rintro z w3 ⟨hB, hif2⟩
    have HS3 := hid (HSa.out.trans (hB.mono HSa.out.size))
    rw [if_neg (by decide)] at hif2
    obtain rfl := hif2
    clear hq hB
    refine hK.out _ _ HS3.out ?_
    clear hK K
    refine rh_takeS (i := 7) (o := ?o86) (v := ?v86) (listed' := ?l86) (a' := ?a86) ?hi86 (by kernel_rfl) (by kernel_rfl) (by kernel_rfl) ?hq86 ?hl86 ?hw86 ?hv86 ?ha86 HS3.out ?hh86
    case hi86 => (simp only [List.getElem?_toArray, List.getElem?_cons_succ, List.getElem?_cons_zero]; try rfl)
    case hq86 => exact fun _ _ _ h => h
    case hl86 => (simp only [List.setIfInBounds_toArray, List.set_cons_succ, List.set_cons_zero]; try rfl)
    case hw86 => rfl
    case hv86 =>
      intro W hW
      skip
      go_simp
      try with_reducible rfl
    case ha86 => (simp only [Act.put, List.setIfInBounds_toArray, List.set_cons_succ, List.set_cons_zero]; try rfl)
    refine rh_takeS (i := 8) (o := ?o87) (v := ?v87) (listed' := ?l87) (a' := ?a87) ?hi87 (by kernel_rfl) (by kernel_rfl) (by kernel_rfl) ?hq87 ?hl87 ?hw87 ?hv87 ?ha87 HS3.out ?hh87
    case hi87 => (simp only [List.getElem?_toArray, List.getElem?_cons_succ, List.getElem?_cons_zero]; try rfl)
    case hq87 => exact fun _ _ _ h => h
    case hl87 => (simp only [List.setIfInBounds_toArray, List.set_cons_succ, List.set_cons_zero]; try rfl)
    case hw87 => rfl
    case hv87 =>
      intro W hW
      skip
      go_simp
      try with_reducible rfl
    case ha87 => (simp only [Act.put, List.setIfInBounds_toArray, List.set_cons_succ, List.set_cons_zero]; try rfl)
    refine rh_takeS (i := 9) (o := ?o88) (v := ?v88) (listed' := ?l88) (a' := ?a88) ?hi88 (by kernel_rfl) (by kernel_rfl) (by kernel_rfl) ?hq88 ?hl88 ?hw88 ?hv88 ?ha88 HS3.out ?hh88
    case hi88 => (simp only [List.getElem?_toArray, List.getElem?_cons_succ, List.getElem?_cons_zero]; try rfl)
    case hq88 => exact fun _ _ _ h => h
    case hl88 => (simp only [List.setIfInBounds_toArray, List.set_cons_succ, List.set_cons_zero]; try rfl)
    case hw88 => rfl
    case hv88 =>
      intro W hW
      skip
      go_simp
      try with_reducible rfl
    case ha88 => (simp only [Act.put, List.setIfInBounds_toArray, List.set_cons_succ, List.set_cons_zero]; try rfl)
    refine rh_takeS (i := 10) (o := ?o89) (v := ?v89) (listed' := ?l89) (a' := ?a89) ?hi89 (by kernel_rfl) (by kernel_rfl) (by kernel_rfl) ?hq89 ?hl89 ?hw89 ?hv89 ?ha89 HS3.out ?hh89
    case hi89 => (simp only [List.getElem?_toArray, List.getElem?_cons_succ, List.getElem?_cons_zero]; try rfl)
    case hq89 => exact fun _ _ _ h => h
    case hl89 => (simp only [List.setIfInBounds_toArray, List.set_cons_succ, List.set_cons_zero]; try rfl)
    case hw89 => rfl
    case hv89 =>
      intro W hW
      skip
      go_simp
      try with_reducible rfl
    case ha89 => (simp only [Act.put, List.setIfInBounds_toArray, List.set_cons_succ, List.set_cons_zero]; try rfl)
    refine rh_takeS (i := 11) (o := ?o90) (v := ?v90) (listed' := ?l90) (a' := ?a90) ?hi90 (by kernel_rfl) (by kernel_rfl) (by kernel_rfl) ?hq90 ?hl90 ?hw90 ?hv90 ?ha90 HS3.out ?hh90
    case hi90 => (simp only [List.getElem?_toArray, List.getElem?_cons_succ, List.getElem?_cons_zero]; try rfl)
    case hq90 => exact fun _ _ _ h => h
    case hl90 => (simp only [List.setIfInBounds_toArray, List.set_cons_succ, List.set_cons_zero]; try rfl)
    case hw90 => rfl
    case hv90 =>
      intro W hW
      skip
      go_simp
      try with_reducible rfl
    case ha90 => (simp only [Act.put, List.setIfInBounds_toArray, List.set_cons_succ, List.set_cons_zero]; try rfl)
    refine wpAnyH_done (by kernel_rfl) ?_ _
    have HB3 := hid (HB2.out.trans (HS3.out.mono HB2.out.size))
    clear HS0 HSa HVa HFA
    go_wp2_with fail
    go_loopw [12] (fun i wr => i = .int .i64 0 ∧ wr = w3) (fun i _ => 0)
    case atStart => exact ⟨rfl, rfl⟩
    case round =>
      obtain ⟨rfl, rfl⟩ := hrel
      by_cases hm0 : (0 : Int) < m
      · go_wp2_with fail
        go_at_call 16
        refine (cSee_nil 16 wr).mono ?_
        rintro e we ⟨rfl, rfl⟩
        go_wp2_with fail
        go_at_call 17
        refine (cTick_nil _).mono ?_
        rintro e we ⟨rfl, rfl⟩
        go_wp2_with fail
        go_at_call 18
        refine (cGet_nil _ _).mono ?_
        rintro e wg ⟨rfl, hB⟩
        have HBg := hid (HB3.out.trans (hB.mono HB3.out.size))
        clear hB
        go_wp2_with (first
          | ((with_reducible refine storeC (x := ?sx90) (y := ?sy90) (b := wg.heap.size) (T := 44) zE ?sg90 ?so90 ?sxx90 ?syy90 ?sc90 ?sh90); (case sg90 => rfl); (case so90 => rfl); (case sxx90 => rfl); (case syy90 => rfl); (case sc90 => exact Ob.room (e := zE) (laid1_0 wg zeroEc)); intro wt hO hU; have HBt := hid (HBg.out.trans (((laid1_b wg zeroEc).trans (hU.below wg.heap.size (Nat.le_refl _))).mono HBg.out.size)); clear hO hU)
          | fail)
        have HO5 := hid (heap_alloc_new wt (.cells #[.int .i64 16, .int .i64 1, .int .i64 0, .int .i64 16, .int .i64 0, .int .i64 0, .int .i64 0] 40))
        have HB5 := hid (HBt.out.trans ((laid1_b wt (.cells #[.int .i64 16, .int .i64 1, .int .i64 0, .int .i64 16, .int .i64 0, .int .i64 0, .int .i64 0] 40)).mono HBt.out.size))
        generalize wt.alloc (.cells #[.int .i64 16, .int .i64 1, .int .i64 0, .int .i64 16, .int .i64 0, .int .i64 0, .int .i64 0] 40) = W5 at HO5 HB5 ⊢
        have HFT : Hid (∀ W, Below W5.heap.size W5 W → W.cell? ⟨wt.heap.size, 0, none⟩ = some (.int .i64 16) ∧ W.cell? ⟨wt.heap.size, 1, none⟩ = some (.int .i64 1) ∧ W.cell? ⟨wt.heap.size, 2, none⟩ = some (.int .i64 0) ∧ W.cell? ⟨wt.heap.size, 3, none⟩ = some (.int .i64 16) ∧ W.cell? ⟨wt.heap.size, 4, none⟩ = some (.int .i64 0) ∧ W.cell? ⟨wt.heap.size, 5, none⟩ = some (.int .i64 0) ∧ W.cell? ⟨wt.heap.size, 6, none⟩ = some (.int .i64 0)) := hid fun W hW => by
          have h0 := heapB HO5.out hW (Array.getElem?_eq_some_iff.1 HO5.out).1
          exact ⟨(cellAt' h0 0).trans rfl, (cellAt' h0 1).trans rfl, (cellAt' h0 2).trans rfl, (cellAt' h0 3).trans rfl, (cellAt' h0 4).trans rfl, (cellAt' h0 5).trans rfl, (cellAt' h0 6).trans rfl⟩
        refine rh_start (S := fun W => Below W5.heap.size W5 W) (n := 29) (listed := #[false, false, false, false, false, false, false, false, false, false, false, false, false, false, false, false, false, false, false, false, false, false, false, false, false, false, false, false, false]) (by kernel_rfl) rfl rfl ?_
        have HS0 : Hid (Below W5.heap.size W5 W5.drew) := hid (belowDrew (Below.refl _ W5))
        generalize World.drew W5 = wd at HS0 ⊢
        refine rh_takeS (i := 0) (o := ?o91) (v := ?v91) (listed' := ?l91) (a' := ?a91) ?hi91 (by kernel_rfl) (by kernel_rfl) (by kernel_rfl) ?hq91 ?hl91 ?hw91 ?hv91 ?ha91 HS0.out ?hh91
        case hi91 => (simp only [List.getElem?_toArray, List.getElem?_cons_zero]; try rfl)
        case hq91 => exact fun _ _ _ h => h
        case hl91 => (simp only [List.setIfInBounds_toArray, List.set_cons_zero]; try rfl)
        case hw91 => rfl
        case hv91 =>
          intro W hW
          obtain ⟨d0, d1, d2, d3, d4, d5, d6⟩ := HFT.out W hW
          go_simp
          try with_reducible rfl
        case ha91 => (simp only [Act.put, List.setIfInBounds_toArray, List.set_cons_succ, List.set_cons_zero]; try rfl)
        refine rh_takeS (i := 3) (o := ?o92) (v := ?v92) (listed' := ?l92) (a' := ?a92) ?hi92 (by kernel_rfl) (by kernel_rfl) (by kernel_rfl) ?hq92 ?hl92 ?hw92 ?hv92 ?ha92 HS0.out ?hh92
        case hi92 => (simp only [List.getElem?_toArray, List.getElem?_cons_succ, List.getElem?_cons_zero]; try rfl)
        case hq92 => exact fun _ _ _ h => h
        case hl92 => (simp only [List.setIfInBounds_toArray, List.set_cons_succ, List.set_cons_zero]; try rfl)
        case hw92 => rfl
        case hv92 =>
          intro W hW
          obtain ⟨d0, d1, d2, d3, d4, d5, d6⟩ := HFT.out W hW
          go_simp
          try with_reducible rfl
        case ha92 => (simp only [Act.put, List.setIfInBounds_toArray, List.set_cons_succ, List.set_cons_zero]; try rfl)
        refine rh_takeS (i := 4) (o := ?o93) (v := ?v93) (listed' := ?l93) (a' := ?a93) ?hi93 (by kernel_rfl) (by kernel_rfl) (by kernel_rfl) ?hq93 ?hl93 ?hw93 ?hv93 ?ha93 HS0.out ?hh93
        case hi93 => (simp only [List.getElem?_toArray, List.getElem?_cons_succ, List.getElem?_cons_zero]; try rfl)
        case hq93 => exact fun _ _ _ h => h
        case hl93 => (simp only [List.setIfInBounds_toArray, List.set_cons_succ, List.set_cons_zero]; try rfl)
        case hw93 => rfl
        case hv93 =>
          intro W hW
          obtain ⟨d0, d1, d2, d3, d4, d5, d6⟩ := HFT.out W hW
          go_simp
          try with_reducible rfl
        case ha93 => (simp only [Act.put, List.setIfInBounds_toArray, List.set_cons_succ, List.set_cons_zero]; try rfl)
        refine rh_takeS (i := 8) (o := ?o94) (v := ?v94) (listed' := ?l94) (a' := ?a94) ?hi94 (by kernel_rfl) (by kernel_rfl) (by kernel_rfl) ?hq94 ?hl94 ?hw94 ?hv94 ?ha94 HS0.out ?hh94
        case hi94 => (simp only [List.getElem?_toArray, List.getElem?_cons_succ, List.getElem?_cons_zero]; try rfl)
        case hq94 => exact fun _ _ _ h => h
        case hl94 => (simp only [List.setIfInBounds_toArray, List.set_cons_succ, List.set_cons_zero]; try rfl)
        case hw94 => rfl
        case hv94 =>
          intro W hW
          obtain ⟨d0, d1, d2, d3, d4, d5, d6⟩ := HFT.out W hW
          go_simp
          try with_reducible rfl
        case ha94 => (simp only [Act.put, List.setIfInBounds_toArray, List.set_cons_succ, List.set_cons_zero]; try rfl)
        refine rh_takeS (i := 9) (o := ?o95) (v := ?v95) (listed' := ?l95) (a' := ?a95) ?hi95 (by kernel_rfl) (by kernel_rfl) (by kernel_rfl) ?hq95 ?hl95 ?hw95 ?hv95 ?ha95 HS0.out ?hh95
        case hi95 => (simp only [List.getElem?_toArray, List.getElem?_cons_succ, List.getElem?_cons_zero]; try rfl)
        case hq95 => exact fun _ _ _ h => h
        case hl95 => (simp only [List.setIfInBounds_toArray, List.set_cons_succ, List.set_cons_zero]; try rfl)
        case hw95 => rfl
        case hv95 =>
          intro W hW
          obtain ⟨d0, d1, d2, d3, d4, d5, d6⟩ := HFT.out W hW
          go_simp
          try with_reducible rfl
        case ha95 => (simp only [Act.put, List.setIfInBounds_toArray, List.set_cons_succ, List.set_cons_zero]; try rfl)
        refine rh_takeS (i := 13) (o := ?o96) (v := ?v96) (listed' := ?l96) (a' := ?a96) ?hi96 (by kernel_rfl) (by kernel_rfl) (by kernel_rfl) ?hq96 ?hl96 ?hw96 ?hv96 ?ha96 HS0.out ?hh96
        case hi96 => (simp only [List.getElem?_toArray, List.getElem?_cons_succ, List.getElem?_cons_zero]; try rfl)
        case hq96 => exact fun _ _ _ h => h
        case hl96 => (simp only [List.setIfInBounds_toArray, List.set_cons_succ, List.set_cons_zero]; try rfl)
        case hw96 => rfl
        case hv96 =>
          intro W hW
          obtain ⟨d0, d1, d2, d3, d4, d5, d6⟩ := HFT.out W hW
          go_simp
          try with_reducible rfl
        case ha96 => (simp only [Act.put, List.setIfInBounds_toArray, List.set_cons_succ, List.set_cons_zero]; try rfl)
        refine rh_takeS (i := 14) (o := ?o97) (v := ?v97) (listed' := ?l97) (a' := ?a97) ?hi97 (by kernel_rfl) (by kernel_rfl) (by kernel_rfl) ?hq97 ?hl97 ?hw97 ?hv97 ?ha97 HS0.out ?hh97
        case hi97 => (simp only [List.getElem?_toArray, List.getElem?_cons_succ, List.getElem?_cons_zero]; try rfl)
        case hq97 => exact fun _ _ _ h => h
        case hl97 => (simp only [List.setIfInBounds_toArray, List.set_cons_succ, List.set_cons_zero]; try rfl)
        case hw97 => rfl
        case hv97 =>
          intro W hW
          obtain ⟨d0, d1, d2, d3, d4, d5, d6⟩ := HFT.out W hW
          go_simp
          try with_reducible rfl
        case ha97 => (simp only [Act.put, List.setIfInBounds_toArray, List.set_cons_succ, List.set_cons_zero]; try rfl)
        refine rh_takeS (i := 18) (o := ?o98) (v := ?v98) (listed' := ?l98) (a' := ?a98) ?hi98 (by kernel_rfl) (by kernel_rfl) (by kernel_rfl) ?hq98 ?hl98 ?hw98 ?hv98 ?ha98 HS0.out ?hh98
        case hi98 => (simp only [List.getElem?_toArray, List.getElem?_cons_succ, List.getElem?_cons_zero]; try rfl)
        case hq98 => exact fun _ _ _ h => h
        case hl98 => (simp only [List.setIfInBounds_toArray, List.set_cons_succ, List.set_cons_zero]; try rfl)
        case hw98 => rfl
        case hv98 =>
          intro W hW
          obtain ⟨d0, d1, d2, d3, d4, d5, d6⟩ := HFT.out W hW
          go_simp
          try with_reducible rfl
        case ha98 => (simp only [Act.put, List.setIfInBounds_toArray, List.set_cons_succ, List.set_cons_zero]; try rfl)
        refine rh_takeS (i := 19) (o := ?o99) (v := ?v99) (listed' := ?l99) (a' := ?a99) ?hi99 (by kernel_rfl) (by kernel_rfl) (by kernel_rfl) ?hq99 ?hl99 ?hw99 ?hv99 ?ha99 HS0.out ?hh99
        case hi99 => (simp only [List.getElem?_toArray, List.getElem?_cons_succ, List.getElem?_cons_zero]; try rfl)
        case hq99 => exact fun _ _ _ h => h
        case hl99 => (simp only [List.setIfInBounds_toArray, List.set_cons_succ, List.set_cons_zero]; try rfl)
        case hw99 => rfl
        case hv99 =>
          intro W hW
          obtain ⟨d0, d1, d2, d3, d4, d5, d6⟩ := HFT.out W hW
          go_simp
          try with_reducible rfl
        case ha99 => (simp only [Act.put, List.setIfInBounds_toArray, List.set_cons_succ, List.set_cons_zero]; try rfl)
        refine rh_takeS (i := 23) (o := ?o100) (v := ?v100) (listed' := ?l100) (a' := ?a100) ?hi100 (by kernel_rfl) (by kernel_rfl) (by kernel_rfl) ?hq100 ?hl100 ?hw100 ?hv100 ?ha100 HS0.out ?hh100
        case hi100 => (simp only [List.getElem?_toArray, List.getElem?_cons_succ, List.getElem?_cons_zero]; try rfl)
        case hq100 => exact fun _ _ _ h => h
        case hl100 => (simp only [List.setIfInBounds_toArray, List.set_cons_succ, List.set_cons_zero]; try rfl)
        case hw100 => rfl
        case hv100 =>
          intro W hW
          obtain ⟨d0, d1, d2, d3, d4, d5, d6⟩ := HFT.out W hW
          go_simp
          try with_reducible rfl
        case ha100 => (simp only [Act.put, List.setIfInBounds_toArray, List.set_cons_succ, List.set_cons_zero]; try rfl)
        refine wpAnyH_ready (rs := [1]) (by kernel_rfl) (by simp) ?_
        refine rh_cons (i := 1) (o := ?o101) (listed' := ?l101) ?hi101 ?hl101 ?hg101 ?hh101 ?hs101
        case hi101 => (simp only [List.getElem?_toArray, List.getElem?_cons_succ, List.getElem?_cons_zero]; try rfl)
        case hl101 => (simp only [List.setIfInBounds_toArray, List.set_cons_succ, List.set_cons_zero]; try rfl)
        case hg101 => rfl
        case hs101 => exact AllReadyH.nil
        intro K hK
        go_simp
        refine (cAll_nil _).mono ?_
        rintro z wa ⟨rfl, rfl⟩
        refine hK.out _ _ HS0.out ?_
        clear hK K
        refine rh_takeS (i := 2) (o := ?o102) (v := ?v102) (listed' := ?l102) (a' := ?a102) ?hi102 (by kernel_rfl) (by kernel_rfl) (by kernel_rfl) ?hq102 ?hl102 ?hw102 ?hv102 ?ha102 HS0.out ?hh102
        case hi102 => (simp only [List.getElem?_toArray, List.getElem?_cons_succ, List.getElem?_cons_zero]; try rfl)
        case hq102 => exact fun _ _ _ h => h
        case hl102 => (simp only [List.setIfInBounds_toArray, List.set_cons_succ, List.set_cons_zero]; try rfl)
        case hw102 => rfl
        case hv102 =>
          intro W hW
          skip
          go_simp
          try with_reducible rfl
        case ha102 => (simp only [Act.put, List.setIfInBounds_toArray, List.set_cons_succ, List.set_cons_zero]; try rfl)
        refine wpAnyH_ready (rs := [5]) (by kernel_rfl) (by simp) ?_
        refine rh_cons (i := 5) (o := ?o103) (listed' := ?l103) ?hi103 ?hl103 ?hg103 ?hh103 ?hs103
        case hi103 => (simp only [List.getElem?_toArray, List.getElem?_cons_succ, List.getElem?_cons_zero]; try rfl)
        case hl103 => (simp only [List.setIfInBounds_toArray, List.set_cons_succ, List.set_cons_zero]; try rfl)
        case hg103 => rfl
        case hs103 => exact AllReadyH.nil
        intro K hK
        go_simp
        refine (cPred_nil cP16 1 _).mono ?_
        rintro z wa ⟨rfl, hB⟩
        have HS1 := hid (HS0.out.trans (hB.mono HS0.out.size))
        clear hB
        refine hK.out _ _ HS1.out ?_
        clear hK K
        refine rh_takeS (i := 6) (o := ?o104) (v := ?v104) (listed' := ?l104) (a' := ?a104) ?hi104 (by kernel_rfl) (by kernel_rfl) (by kernel_rfl) ?hq104 ?hl104 ?hw104 ?hv104 ?ha104 HS1.out ?hh104
        case hi104 => (simp only [List.getElem?_toArray, List.getElem?_cons_succ, List.getElem?_cons_zero]; try rfl)
        case hq104 => exact fun _ _ _ h => h
        case hl104 => (simp only [List.setIfInBounds_toArray, List.set_cons_succ, List.set_cons_zero]; try rfl)
        case hw104 => rfl
        case hv104 =>
          intro W hW
          skip
          go_simp
          try with_reducible rfl
        case ha104 => (simp only [Act.put, List.setIfInBounds_toArray, List.set_cons_succ, List.set_cons_zero]; try rfl)
        refine rh_takeS (i := 7) (o := ?o105) (v := ?v105) (listed' := ?l105) (a' := ?a105) ?hi105 (by kernel_rfl) (by kernel_rfl) (by kernel_rfl) ?hq105 ?hl105 ?hw105 ?hv105 ?ha105 HS1.out ?hh105
        case hi105 => (simp only [List.getElem?_toArray, List.getElem?_cons_succ, List.getElem?_cons_zero]; try rfl)
        case hq105 => exact fun _ _ _ h => h
        case hl105 => (simp only [List.setIfInBounds_toArray, List.set_cons_succ, List.set_cons_zero]; try rfl)
        case hw105 => rfl
        case hv105 =>
          intro W hW
          skip
          go_simp
          try with_reducible rfl
        case ha105 => (simp only [Act.put, List.setIfInBounds_toArray, List.set_cons_succ, List.set_cons_zero]; try rfl)
        refine wpAnyH_ready (rs := [10]) (by kernel_rfl) (by simp) ?_
        refine rh_cons (i := 10) (o := ?o106) (listed' := ?l106) ?hi106 ?hl106 ?hg106 ?hh106 ?hs106
        case hi106 => (simp only [List.getElem?_toArray, List.getElem?_cons_succ, List.getElem?_cons_zero]; try rfl)
        case hl106 => (simp only [List.setIfInBounds_toArray, List.set_cons_succ, List.set_cons_zero]; try rfl)
        case hg106 => rfl
        case hs106 => exact AllReadyH.nil
        intro K hK
        go_simp
        refine (cHolders_nil cP16 1 _).mono ?_
        rintro z wa2 ⟨v, rfl, hv, hB⟩
        have HS2 := hid (HS1.out.trans (hB.mono HS1.out.size))
        obtain ⟨vg, vc, vn, rfl, hvn⟩ := OwnI.asSlice' hv
        obtain rfl : vn = 0 := hvn
        clear hB hv
        refine hK.out _ _ HS2.out ?_
        clear hK K
        refine rh_takeS (i := 11) (o := ?o107) (v := ?v107) (listed' := ?l107) (a' := ?a107) ?hi107 (by kernel_rfl) (by kernel_rfl) (by kernel_rfl) ?hq107 ?hl107 ?hw107 ?hv107 ?ha107 HS2.out ?hh107
        case hi107 => (simp only [List.getElem?_toArray, List.getElem?_cons_succ, List.getElem?_cons_zero]; try rfl)
        case hq107 => exact fun _ _ _ h => h
        case hl107 => (simp only [List.setIfInBounds_toArray, List.set_cons_succ, List.set_cons_zero]; try rfl)
        case hw107 => rfl
        case hv107 =>
          intro W hW
          skip
          go_simp
          try with_reducible rfl
        case ha107 => (simp only [Act.put, List.setIfInBounds_toArray, List.set_cons_succ, List.set_cons_zero]; try rfl)
        refine rh_takeS (i := 12) (o := ?o108) (v := ?v108) (listed' := ?l108) (a' := ?a108) ?hi108 (by kernel_rfl) (by kernel_rfl) (by kernel_rfl) ?hq108 ?hl108 ?hw108 ?hv108 ?ha108 HS2.out ?hh108
        case hi108 => (simp only [List.getElem?_toArray, List.getElem?_cons_succ, List.getElem?_cons_zero]; try rfl)
        case hq108 => exact fun _ _ _ h => h
        case hl108 => (simp only [List.setIfInBounds_toArray, List.set_cons_succ, List.set_cons_zero]; try rfl)
        case hw108 => rfl
        case hv108 =>
          intro W hW
          skip
          go_simp
          try with_reducible rfl
        case ha108 => (simp only [Act.put, List.setIfInBounds_toArray, List.set_cons_succ, List.set_cons_zero]; try rfl)
        refine wpAnyH_ready (rs := [15]) (by kernel_rfl) (by simp) ?_
        refine rh_cons (i := 15) (o := ?o109) (listed' := ?l109) ?hi109 ?hl109 ?hg109 ?hh109 ?hs109
        case hi109 => (simp only [List.getElem?_toArray, List.getElem?_cons_succ, List.getElem?_cons_zero]; try rfl)
        case hl109 => (simp only [List.setIfInBounds_toArray, List.set_cons_succ, List.set_cons_zero]; try rfl)
        case hg109 => rfl
        case hs109 => exact AllReadyH.nil
        intro K hK
        go_simp
        refine (cKillers_nil cP16 1 _).mono ?_
        rintro z wa3 ⟨v, rfl, hv, hB⟩
        have HS3 := hid (HS2.out.trans (hB.mono HS2.out.size))
        obtain ⟨vg, vc, vn, rfl, hvn⟩ := OwnI.asSlice' hv
        obtain rfl : vn = 0 := hvn
        clear hB hv
        refine hK.out _ _ HS3.out ?_
        clear hK K
        refine rh_takeS (i := 16) (o := ?o110) (v := ?v110) (listed' := ?l110) (a' := ?a110) ?hi110 (by kernel_rfl) (by kernel_rfl) (by kernel_rfl) ?hq110 ?hl110 ?hw110 ?hv110 ?ha110 HS3.out ?hh110
        case hi110 => (simp only [List.getElem?_toArray, List.getElem?_cons_succ, List.getElem?_cons_zero]; try rfl)
        case hq110 => exact fun _ _ _ h => h
        case hl110 => (simp only [List.setIfInBounds_toArray, List.set_cons_succ, List.set_cons_zero]; try rfl)
        case hw110 => rfl
        case hv110 =>
          intro W hW
          skip
          go_simp
          try with_reducible rfl
        case ha110 => (simp only [Act.put, List.setIfInBounds_toArray, List.set_cons_succ, List.set_cons_zero]; try rfl)
        refine rh_takeS (i := 17) (o := ?o111) (v := ?v111) (listed' := ?l111) (a' := ?a111) ?hi111 (by kernel_rfl) (by kernel_rfl) (by kernel_rfl) ?hq111 ?hl111 ?hw111 ?hv111 ?ha111 HS3.out ?hh111
        case hi111 => (simp only [List.getElem?_toArray, List.getElem?_cons_succ, List.getElem?_cons_zero]; try rfl)
        case hq111 => exact fun _ _ _ h => h
        case hl111 => (simp only [List.setIfInBounds_toArray, List.set_cons_succ, List.set_cons_zero]; try rfl)
        case hw111 => rfl
        case hv111 =>
          intro W hW
          skip
          go_simp
          try with_reducible rfl
        case ha111 => (simp only [Act.put, List.setIfInBounds_toArray, List.set_cons_succ, List.set_cons_zero]; try rfl)
        refine wpAnyH_ready (rs := [20]) (by kernel_rfl) (by simp) ?_
        refine rh_cons (i := 20) (o := ?o112) (listed' := ?l112) ?hi112 ?hl112 ?hg112 ?hh112 ?hs112
        case hi112 => (simp only [List.getElem?_toArray, List.getElem?_cons_succ, List.getElem?_cons_zero]; try rfl)
        case hl112 => (simp only [List.setIfInBounds_toArray, List.set_cons_succ, List.set_cons_zero]; try rfl)
        case hg112 => rfl
        case hs112 => exact AllReadyH.nil
        intro K hK
        go_simp
        refine (cAbsent_nil cP16 1 none 0 0 true _).mono ?_
        rintro z wa4 ⟨v, rfl, hv, hB⟩
        have HS4 := hid (HS3.out.trans (hB.mono HS3.out.size))
        obtain ⟨vg, vc, vn, rfl, hvn⟩ := OwnI.asSlice' hv
        obtain rfl : vn = 0 := hvn
        clear hB hv
        refine hK.out _ _ HS4.out ?_
        clear hK K
        refine rh_takeS (i := 21) (o := ?o113) (v := ?v113) (listed' := ?l113) (a' := ?a113) ?hi113 (by kernel_rfl) (by kernel_rfl) (by kernel_rfl) ?hq113 ?hl113 ?hw113 ?hv113 ?ha113 HS4.out ?hh113
        case hi113 => (simp only [List.getElem?_toArray, List.getElem?_cons_succ, List.getElem?_cons_zero]; try rfl)
        case hq113 => exact fun _ _ _ h => h
        case hl113 => (simp only [List.setIfInBounds_toArray, List.set_cons_succ, List.set_cons_zero]; try rfl)
        case hw113 => rfl
        case hv113 =>
          intro W hW
          skip
          go_simp
          try with_reducible rfl
        case ha113 => (simp only [Act.put, List.setIfInBounds_toArray, List.set_cons_succ, List.set_cons_zero]; try rfl)
        refine rh_takeS (i := 22) (o := ?o114) (v := ?v114) (listed' := ?l114) (a' := ?a114) ?hi114 (by kernel_rfl) (by kernel_rfl) (by kernel_rfl) ?hq114 ?hl114 ?hw114 ?hv114 ?ha114 HS4.out ?hh114
        case hi114 => (simp only [List.getElem?_toArray, List.getElem?_cons_succ, List.getElem?_cons_zero]; try rfl)
        case hq114 => exact fun _ _ _ h => h
        case hl114 => (simp only [List.setIfInBounds_toArray, List.set_cons_succ, List.set_cons_zero]; try rfl)
        case hw114 => rfl
        case hv114 =>
          intro W hW
          skip
          go_simp
          try with_reducible rfl
        case ha114 => (simp only [Act.put, List.setIfInBounds_toArray, List.set_cons_succ, List.set_cons_zero]; try rfl)
        refine wpAnyH_ready (rs := [24]) (by kernel_rfl) (by simp) ?_
        refine rh_cons (i := 24) (o := ?o115) (listed' := ?l115) ?hi115 ?hl115 ?hg115 ?hh115 ?hs115
        case hi115 => (simp only [List.getElem?_toArray, List.getElem?_cons_succ, List.getElem?_cons_zero]; try rfl)
        case hl115 => (simp only [List.setIfInBounds_toArray, List.set_cons_succ, List.set_cons_zero]; try rfl)
        case hg115 => rfl
        case hs115 => exact AllReadyH.nil
        intro K hK
        go_simp
        refine (cChanged_nil _).mono ?_
        rintro z wa ⟨rfl, rfl⟩
        refine hK.out _ _ HS4.out ?_
        clear hK K
        refine rh_takeS (i := 25) (o := ?o116) (v := ?v116) (listed' := ?l116) (a' := ?a116) ?hi116 (by kernel_rfl) (by kernel_rfl) (by kernel_rfl) ?hq116 ?hl116 ?hw116 ?hv116 ?ha116 HS4.out ?hh116
        case hi116 => (simp only [List.getElem?_toArray, List.getElem?_cons_succ, List.getElem?_cons_zero]; try rfl)
        case hq116 => exact fun _ _ _ h => h
        case hl116 => (simp only [List.setIfInBounds_toArray, List.set_cons_succ, List.set_cons_zero]; try rfl)
        case hw116 => rfl
        case hv116 =>
          intro W hW
          skip
          go_simp
          try with_reducible rfl
        case ha116 => (simp only [Act.put, List.setIfInBounds_toArray, List.set_cons_succ, List.set_cons_zero]; try rfl)
        refine rh_takeS (i := 26) (o := ?o117) (v := ?v117) (listed' := ?l117) (a' := ?a117) ?hi117 (by kernel_rfl) (by kernel_rfl) (by kernel_rfl) ?hq117 ?hl117 ?hw117 ?hv117 ?ha117 HS4.out ?hh117
        case hi117 => (simp only [List.getElem?_toArray, List.getElem?_cons_succ, List.getElem?_cons_zero]; try rfl)
        case hq117 => exact fun _ _ _ h => h
        case hl117 => (simp only [List.setIfInBounds_toArray, List.set_cons_succ, List.set_cons_zero]; try rfl)
        case hw117 => rfl
        case hv117 =>
          intro W hW
          skip
          go_simp
          try with_reducible rfl
        case ha117 => (simp only [Act.put, List.setIfInBounds_toArray, List.set_cons_succ, List.set_cons_zero]; try rfl)
        refine rh_takeS (i := 27) (o := ?o118) (v := ?v118) (listed' := ?l118) (a' := ?a118) ?hi118 (by kernel_rfl) (by kernel_rfl) (by kernel_rfl) ?hq118 ?hl118 ?hw118 ?hv118 ?ha118 HS4.out ?hh118
        case hi118 => (simp only [List.getElem?_toArray, List.getElem?_cons_succ, List.getElem?_cons_zero]; try rfl)
        case hq118 => exact fun _ _ _ h => h
        case hl118 => (simp only [List.setIfInBounds_toArray, List.set_cons_succ, List.set_cons_zero]; try rfl)
        case hw118 => rfl
        case hv118 =>
          intro W hW
          skip
          go_simp
          try with_reducible rfl
        case ha118 => (simp only [Act.put, List.setIfInBounds_toArray, List.set_cons_succ, List.set_cons_zero]; try rfl)
        refine rh_takeS (i := 28) (o := ?o119) (v := ?v119) (listed' := ?l119) (a' := ?a119) ?hi119 (by kernel_rfl) (by kernel_rfl) (by kernel_rfl) ?hq119 ?hl119 ?hw119 ?hv119 ?ha119 HS4.out ?hh119
        case hi119 => (simp only [List.getElem?_toArray, List.getElem?_cons_succ, List.getElem?_cons_zero]; try rfl)
        case hq119 => exact fun _ _ _ h => h
        case hl119 => (simp only [List.setIfInBounds_toArray, List.set_cons_succ, List.set_cons_zero]; try rfl)
        case hw119 => rfl
        case hv119 =>
          intro W hW
          skip
          go_simp
          try with_reducible rfl
        case ha119 => (simp only [Act.put, List.setIfInBounds_toArray, List.set_cons_succ, List.set_cons_zero]; try rfl)
        refine wpAnyH_done (by kernel_rfl) ?_ _
        have HB6 := hid (HB5.out.trans (HS4.out.mono HB5.out.size))
        have HO6 := hid (heapB HO5.out HS4.out (Array.getElem?_eq_some_iff.1 HO5.out).1)
        clear HS0 HS1 HS2 HS3 HS4 HFT HO5 HB5
        go_wp2_with fail
        go_at_call 6
        refine (HIA.out _).mono ?_
        rintro e w7 ⟨rfl, hB⟩
        have HB7 := hid (HB6.out.trans (hB.mono HB6.out.size))
        have HO7 := hid (heapB HO6.out hB (Array.getElem?_eq_some_iff.1 HO6.out).1)
        clear hB HO6 HB6
        go_wp2_with fail
        go_at_call 24
        refine (cLearn_nil _).mono ?_
        rintro e we ⟨rfl, rfl⟩
        have d0 : w7.cell? ⟨wt.heap.size, 0, none⟩ = some (.int .i64 16) := (cellAt' HO7.out 0).trans rfl
        have d1 : w7.cell? ⟨wt.heap.size, 1, none⟩ = some (.int .i64 1) := (cellAt' HO7.out 1).trans rfl
        have d2 : w7.cell? ⟨wt.heap.size, 2, none⟩ = some (.int .i64 0) := (cellAt' HO7.out 2).trans rfl
        have d3 : w7.cell? ⟨wt.heap.size, 3, none⟩ = some (.int .i64 16) := (cellAt' HO7.out 3).trans rfl
        have d4 : w7.cell? ⟨wt.heap.size, 4, none⟩ = some (.int .i64 0) := (cellAt' HO7.out 4).trans rfl
        have d5 : w7.cell? ⟨wt.heap.size, 5, none⟩ = some (.int .i64 0) := (cellAt' HO7.out 5).trans rfl
        have d6 : w7.cell? ⟨wt.heap.size, 6, none⟩ = some (.int .i64 0) := (cellAt' HO7.out 6).trans rfl
        go_wp2_with (first
          | ((with_reducible refine wpList_buildG (x := ?bx119) ?bg119 ?bo119 ?b1119 ?bh119); (case bg119 => rfl); (case bo119 => rfl); (case b1119 => rfl))
          | fail)
        go_at_call 25
        refine (cPut_nil (newE cP16) _).mono ?_
        rintro e w8 ⟨rfl, hB⟩
        have HB8 := hid (HB7.out.trans (hB.mono HB7.out.size))
        clear hB HO7 HB7 d0 d1 d2 d3 d4 d5 d6
        go_wp2_with fail
        go_at_call 15
        refine (cNode_nil _).mono ?_
        rintro e we ⟨rfl, rfl⟩
        go_wp2_with fail
        go_at_call 14
        refine (cClock_nil _).mono ?_
        rintro e we ⟨rfl, rfl⟩
        go_wp2_with fail
        go_ret
        exact ⟨rfl, HB8.out⟩
      · go_wp2_with fail
        go_at_call 16
        refine (cSee_nil 16 wr).mono ?_
        rintro e we ⟨rfl, rfl⟩
        go_wp2_with fail
        go_at_call 17
        refine (cTick_nil _).mono ?_
        rintro e we ⟨rfl, rfl⟩
        go_wp2_with fail
        go_at_call 18
        refine (cGet_nil _ _).mono ?_
        rintro e wg ⟨rfl, hB⟩
        have HBg := hid (HB3.out.trans (hB.mono HB3.out.size))
        clear hB
        go_wp2_with (first
          | ((with_reducible refine storeC (x := ?sx119) (y := ?sy119) (b := wg.heap.size) (T := 44) zE ?sg119 ?so119 ?sxx119 ?syy119 ?sc119 ?sh119); (case sg119 => rfl); (case so119 => rfl); (case sxx119 => rfl); (case syy119 => rfl); (case sc119 => exact Ob.room (e := zE) (laid1_0 wg zeroEc)); intro wt hO hU; have HBt := hid (HBg.out.trans (((laid1_b wg zeroEc).trans (hU.below wg.heap.size (Nat.le_refl _))).mono HBg.out.size)); clear hO hU)
          | fail)
        have HO5 := hid (heap_alloc_new wt (.cells #[.int .i64 16, .int .i64 1, .int .i64 0, .int .i64 16, .int .i64 0, .int .i64 0, .int .i64 0] 40))
        have HB5 := hid (HBt.out.trans ((laid1_b wt (.cells #[.int .i64 16, .int .i64 1, .int .i64 0, .int .i64 16, .int .i64 0, .int .i64 0, .int .i64 0] 40)).mono HBt.out.size))
        generalize wt.alloc (.cells #[.int .i64 16, .int .i64 1, .int .i64 0, .int .i64 16, .int .i64 0, .int .i64 0, .int .i64 0] 40) = W5 at HO5 HB5 ⊢
        have HFT : Hid (∀ W, Below W5.heap.size W5 W → W.cell? ⟨wt.heap.size, 0, none⟩ = some (.int .i64 16) ∧ W.cell? ⟨wt.heap.size, 1, none⟩ = some (.int .i64 1) ∧ W.cell? ⟨wt.heap.size, 2, none⟩ = some (.int .i64 0) ∧ W.cell? ⟨wt.heap.size, 3, none⟩ = some (.int .i64 16) ∧ W.cell? ⟨wt.heap.size, 4, none⟩ = some (.int .i64 0) ∧ W.cell? ⟨wt.heap.size, 5, none⟩ = some (.int .i64 0) ∧ W.cell? ⟨wt.heap.size, 6, none⟩ = some (.int .i64 0)) := hid fun W hW => by
          have h0 := heapB HO5.out hW (Array.getElem?_eq_some_iff.1 HO5.out).1
          exact ⟨(cellAt' h0 0).trans rfl, (cellAt' h0 1).trans rfl, (cellAt' h0 2).trans rfl, (cellAt' h0 3).trans rfl, (cellAt' h0 4).trans rfl, (cellAt' h0 5).trans rfl, (cellAt' h0 6).trans rfl⟩
        refine rh_start (S := fun W => Below W5.heap.size W5 W) (n := 29) (listed := #[false, false, false, false, false, false, false, false, false, false, false, false, false, false, false, false, false, false, false, false, false, false, false, false, false, false, false, false, false]) (by kernel_rfl) rfl rfl ?_
        have HS0 : Hid (Below W5.heap.size W5 W5.drew) := hid (belowDrew (Below.refl _ W5))
        generalize World.drew W5 = wd at HS0 ⊢
        refine rh_takeS (i := 0) (o := ?o120) (v := ?v120) (listed' := ?l120) (a' := ?a120) ?hi120 (by kernel_rfl) (by kernel_rfl) (by kernel_rfl) ?hq120 ?hl120 ?hw120 ?hv120 ?ha120 HS0.out ?hh120
        case hi120 => (simp only [List.getElem?_toArray, List.getElem?_cons_zero]; try rfl)
        case hq120 => exact fun _ _ _ h => h
        case hl120 => (simp only [List.setIfInBounds_toArray, List.set_cons_zero]; try rfl)
        case hw120 => rfl
        case hv120 =>
          intro W hW
          obtain ⟨d0, d1, d2, d3, d4, d5, d6⟩ := HFT.out W hW
          go_simp
          try with_reducible rfl
        case ha120 => (simp only [Act.put, List.setIfInBounds_toArray, List.set_cons_succ, List.set_cons_zero]; try rfl)
        refine rh_takeS (i := 3) (o := ?o121) (v := ?v121) (listed' := ?l121) (a' := ?a121) ?hi121 (by kernel_rfl) (by kernel_rfl) (by kernel_rfl) ?hq121 ?hl121 ?hw121 ?hv121 ?ha121 HS0.out ?hh121
        case hi121 => (simp only [List.getElem?_toArray, List.getElem?_cons_succ, List.getElem?_cons_zero]; try rfl)
        case hq121 => exact fun _ _ _ h => h
        case hl121 => (simp only [List.setIfInBounds_toArray, List.set_cons_succ, List.set_cons_zero]; try rfl)
        case hw121 => rfl
        case hv121 =>
          intro W hW
          obtain ⟨d0, d1, d2, d3, d4, d5, d6⟩ := HFT.out W hW
          go_simp
          try with_reducible rfl
        case ha121 => (simp only [Act.put, List.setIfInBounds_toArray, List.set_cons_succ, List.set_cons_zero]; try rfl)
        refine rh_takeS (i := 4) (o := ?o122) (v := ?v122) (listed' := ?l122) (a' := ?a122) ?hi122 (by kernel_rfl) (by kernel_rfl) (by kernel_rfl) ?hq122 ?hl122 ?hw122 ?hv122 ?ha122 HS0.out ?hh122
        case hi122 => (simp only [List.getElem?_toArray, List.getElem?_cons_succ, List.getElem?_cons_zero]; try rfl)
        case hq122 => exact fun _ _ _ h => h
        case hl122 => (simp only [List.setIfInBounds_toArray, List.set_cons_succ, List.set_cons_zero]; try rfl)
        case hw122 => rfl
        case hv122 =>
          intro W hW
          obtain ⟨d0, d1, d2, d3, d4, d5, d6⟩ := HFT.out W hW
          go_simp
          try with_reducible rfl
        case ha122 => (simp only [Act.put, List.setIfInBounds_toArray, List.set_cons_succ, List.set_cons_zero]; try rfl)
        refine rh_takeS (i := 8) (o := ?o123) (v := ?v123) (listed' := ?l123) (a' := ?a123) ?hi123 (by kernel_rfl) (by kernel_rfl) (by kernel_rfl) ?hq123 ?hl123 ?hw123 ?hv123 ?ha123 HS0.out ?hh123
        case hi123 => (simp only [List.getElem?_toArray, List.getElem?_cons_succ, List.getElem?_cons_zero]; try rfl)
        case hq123 => exact fun _ _ _ h => h
        case hl123 => (simp only [List.setIfInBounds_toArray, List.set_cons_succ, List.set_cons_zero]; try rfl)
        case hw123 => rfl
        case hv123 =>
          intro W hW
          obtain ⟨d0, d1, d2, d3, d4, d5, d6⟩ := HFT.out W hW
          go_simp
          try with_reducible rfl
        case ha123 => (simp only [Act.put, List.setIfInBounds_toArray, List.set_cons_succ, List.set_cons_zero]; try rfl)
        refine rh_takeS (i := 9) (o := ?o124) (v := ?v124) (listed' := ?l124) (a' := ?a124) ?hi124 (by kernel_rfl) (by kernel_rfl) (by kernel_rfl) ?hq124 ?hl124 ?hw124 ?hv124 ?ha124 HS0.out ?hh124
        case hi124 => (simp only [List.getElem?_toArray, List.getElem?_cons_succ, List.getElem?_cons_zero]; try rfl)
        case hq124 => exact fun _ _ _ h => h
        case hl124 => (simp only [List.setIfInBounds_toArray, List.set_cons_succ, List.set_cons_zero]; try rfl)
        case hw124 => rfl
        case hv124 =>
          intro W hW
          obtain ⟨d0, d1, d2, d3, d4, d5, d6⟩ := HFT.out W hW
          go_simp
          try with_reducible rfl
        case ha124 => (simp only [Act.put, List.setIfInBounds_toArray, List.set_cons_succ, List.set_cons_zero]; try rfl)
        refine rh_takeS (i := 13) (o := ?o125) (v := ?v125) (listed' := ?l125) (a' := ?a125) ?hi125 (by kernel_rfl) (by kernel_rfl) (by kernel_rfl) ?hq125 ?hl125 ?hw125 ?hv125 ?ha125 HS0.out ?hh125
        case hi125 => (simp only [List.getElem?_toArray, List.getElem?_cons_succ, List.getElem?_cons_zero]; try rfl)
        case hq125 => exact fun _ _ _ h => h
        case hl125 => (simp only [List.setIfInBounds_toArray, List.set_cons_succ, List.set_cons_zero]; try rfl)
        case hw125 => rfl
        case hv125 =>
          intro W hW
          obtain ⟨d0, d1, d2, d3, d4, d5, d6⟩ := HFT.out W hW
          go_simp
          try with_reducible rfl
        case ha125 => (simp only [Act.put, List.setIfInBounds_toArray, List.set_cons_succ, List.set_cons_zero]; try rfl)
        refine rh_takeS (i := 14) (o := ?o126) (v := ?v126) (listed' := ?l126) (a' := ?a126) ?hi126 (by kernel_rfl) (by kernel_rfl) (by kernel_rfl) ?hq126 ?hl126 ?hw126 ?hv126 ?ha126 HS0.out ?hh126
        case hi126 => (simp only [List.getElem?_toArray, List.getElem?_cons_succ, List.getElem?_cons_zero]; try rfl)
        case hq126 => exact fun _ _ _ h => h
        case hl126 => (simp only [List.setIfInBounds_toArray, List.set_cons_succ, List.set_cons_zero]; try rfl)
        case hw126 => rfl
        case hv126 =>
          intro W hW
          obtain ⟨d0, d1, d2, d3, d4, d5, d6⟩ := HFT.out W hW
          go_simp
          try with_reducible rfl
        case ha126 => (simp only [Act.put, List.setIfInBounds_toArray, List.set_cons_succ, List.set_cons_zero]; try rfl)
        refine rh_takeS (i := 18) (o := ?o127) (v := ?v127) (listed' := ?l127) (a' := ?a127) ?hi127 (by kernel_rfl) (by kernel_rfl) (by kernel_rfl) ?hq127 ?hl127 ?hw127 ?hv127 ?ha127 HS0.out ?hh127
        case hi127 => (simp only [List.getElem?_toArray, List.getElem?_cons_succ, List.getElem?_cons_zero]; try rfl)
        case hq127 => exact fun _ _ _ h => h
        case hl127 => (simp only [List.setIfInBounds_toArray, List.set_cons_succ, List.set_cons_zero]; try rfl)
        case hw127 => rfl
        case hv127 =>
          intro W hW
          obtain ⟨d0, d1, d2, d3, d4, d5, d6⟩ := HFT.out W hW
          go_simp
          try with_reducible rfl
        case ha127 => (simp only [Act.put, List.setIfInBounds_toArray, List.set_cons_succ, List.set_cons_zero]; try rfl)
        refine rh_takeS (i := 19) (o := ?o128) (v := ?v128) (listed' := ?l128) (a' := ?a128) ?hi128 (by kernel_rfl) (by kernel_rfl) (by kernel_rfl) ?hq128 ?hl128 ?hw128 ?hv128 ?ha128 HS0.out ?hh128
        case hi128 => (simp only [List.getElem?_toArray, List.getElem?_cons_succ, List.getElem?_cons_zero]; try rfl)
        case hq128 => exact fun _ _ _ h => h
        case hl128 => (simp only [List.setIfInBounds_toArray, List.set_cons_succ, List.set_cons_zero]; try rfl)
        case hw128 => rfl
        case hv128 =>
          intro W hW
          obtain ⟨d0, d1, d2, d3, d4, d5, d6⟩ := HFT.out W hW
          go_simp
          try with_reducible rfl
        case ha128 => (simp only [Act.put, List.setIfInBounds_toArray, List.set_cons_succ, List.set_cons_zero]; try rfl)
        refine rh_takeS (i := 23) (o := ?o129) (v := ?v129) (listed' := ?l129) (a' := ?a129) ?hi129 (by kernel_rfl) (by kernel_rfl) (by kernel_rfl) ?hq129 ?hl129 ?hw129 ?hv129 ?ha129 HS0.out ?hh129
        case hi129 => (simp only [List.getElem?_toArray, List.getElem?_cons_succ, List.getElem?_cons_zero]; try rfl)
        case hq129 => exact fun _ _ _ h => h
        case hl129 => (simp only [List.setIfInBounds_toArray, List.set_cons_succ, List.set_cons_zero]; try rfl)
        case hw129 => rfl
        case hv129 =>
          intro W hW
          obtain ⟨d0, d1, d2, d3, d4, d5, d6⟩ := HFT.out W hW
          go_simp
          try with_reducible rfl
        case ha129 => (simp only [Act.put, List.setIfInBounds_toArray, List.set_cons_succ, List.set_cons_zero]; try rfl)
        refine wpAnyH_ready (rs := [1]) (by kernel_rfl) (by simp) ?_
        refine rh_cons (i := 1) (o := ?o130) (listed' := ?l130) ?hi130 ?hl130 ?hg130 ?hh130 ?hs130
        case hi130 => (simp only [List.getElem?_toArray, List.getElem?_cons_succ, List.getElem?_cons_zero]; try rfl)
        case hl130 => (simp only [List.setIfInBounds_toArray, List.set_cons_succ, List.set_cons_zero]; try rfl)
        case hg130 => rfl
        case hs130 => exact AllReadyH.nil
        intro K hK
        go_simp
        refine (cAll_nil _).mono ?_
        rintro z wa ⟨rfl, rfl⟩
        refine hK.out _ _ HS0.out ?_
        clear hK K
        refine rh_takeS (i := 2) (o := ?o131) (v := ?v131) (listed' := ?l131) (a' := ?a131) ?hi131 (by kernel_rfl) (by kernel_rfl) (by kernel_rfl) ?hq131 ?hl131 ?hw131 ?hv131 ?ha131 HS0.out ?hh131
        case hi131 => (simp only [List.getElem?_toArray, List.getElem?_cons_succ, List.getElem?_cons_zero]; try rfl)
        case hq131 => exact fun _ _ _ h => h
        case hl131 => (simp only [List.setIfInBounds_toArray, List.set_cons_succ, List.set_cons_zero]; try rfl)
        case hw131 => rfl
        case hv131 =>
          intro W hW
          skip
          go_simp
          try with_reducible rfl
        case ha131 => (simp only [Act.put, List.setIfInBounds_toArray, List.set_cons_succ, List.set_cons_zero]; try rfl)
        refine wpAnyH_ready (rs := [5]) (by kernel_rfl) (by simp) ?_
        refine rh_cons (i := 5) (o := ?o132) (listed' := ?l132) ?hi132 ?hl132 ?hg132 ?hh132 ?hs132
        case hi132 => (simp only [List.getElem?_toArray, List.getElem?_cons_succ, List.getElem?_cons_zero]; try rfl)
        case hl132 => (simp only [List.setIfInBounds_toArray, List.set_cons_succ, List.set_cons_zero]; try rfl)
        case hg132 => rfl
        case hs132 => exact AllReadyH.nil
        intro K hK
        go_simp
        refine (cPred_nil cP16 1 _).mono ?_
        rintro z wa ⟨rfl, hB⟩
        have HS1 := hid (HS0.out.trans (hB.mono HS0.out.size))
        clear hB
        refine hK.out _ _ HS1.out ?_
        clear hK K
        refine rh_takeS (i := 6) (o := ?o133) (v := ?v133) (listed' := ?l133) (a' := ?a133) ?hi133 (by kernel_rfl) (by kernel_rfl) (by kernel_rfl) ?hq133 ?hl133 ?hw133 ?hv133 ?ha133 HS1.out ?hh133
        case hi133 => (simp only [List.getElem?_toArray, List.getElem?_cons_succ, List.getElem?_cons_zero]; try rfl)
        case hq133 => exact fun _ _ _ h => h
        case hl133 => (simp only [List.setIfInBounds_toArray, List.set_cons_succ, List.set_cons_zero]; try rfl)
        case hw133 => rfl
        case hv133 =>
          intro W hW
          skip
          go_simp
          try with_reducible rfl
        case ha133 => (simp only [Act.put, List.setIfInBounds_toArray, List.set_cons_succ, List.set_cons_zero]; try rfl)
        refine rh_takeS (i := 7) (o := ?o134) (v := ?v134) (listed' := ?l134) (a' := ?a134) ?hi134 (by kernel_rfl) (by kernel_rfl) (by kernel_rfl) ?hq134 ?hl134 ?hw134 ?hv134 ?ha134 HS1.out ?hh134
        case hi134 => (simp only [List.getElem?_toArray, List.getElem?_cons_succ, List.getElem?_cons_zero]; try rfl)
        case hq134 => exact fun _ _ _ h => h
        case hl134 => (simp only [List.setIfInBounds_toArray, List.set_cons_succ, List.set_cons_zero]; try rfl)
        case hw134 => rfl
        case hv134 =>
          intro W hW
          skip
          go_simp
          try with_reducible rfl
        case ha134 => (simp only [Act.put, List.setIfInBounds_toArray, List.set_cons_succ, List.set_cons_zero]; try rfl)
        refine wpAnyH_ready (rs := [10]) (by kernel_rfl) (by simp) ?_
        refine rh_cons (i := 10) (o := ?o135) (listed' := ?l135) ?hi135 ?hl135 ?hg135 ?hh135 ?hs135
        case hi135 => (simp only [List.getElem?_toArray, List.getElem?_cons_succ, List.getElem?_cons_zero]; try rfl)
        case hl135 => (simp only [List.setIfInBounds_toArray, List.set_cons_succ, List.set_cons_zero]; try rfl)
        case hg135 => rfl
        case hs135 => exact AllReadyH.nil
        intro K hK
        go_simp
        refine (cHolders_nil cP16 1 _).mono ?_
        rintro z wa2 ⟨v, rfl, hv, hB⟩
        have HS2 := hid (HS1.out.trans (hB.mono HS1.out.size))
        obtain ⟨vg, vc, vn, rfl, hvn⟩ := OwnI.asSlice' hv
        obtain rfl : vn = 0 := hvn
        clear hB hv
        refine hK.out _ _ HS2.out ?_
        clear hK K
        refine rh_takeS (i := 11) (o := ?o136) (v := ?v136) (listed' := ?l136) (a' := ?a136) ?hi136 (by kernel_rfl) (by kernel_rfl) (by kernel_rfl) ?hq136 ?hl136 ?hw136 ?hv136 ?ha136 HS2.out ?hh136
        case hi136 => (simp only [List.getElem?_toArray, List.getElem?_cons_succ, List.getElem?_cons_zero]; try rfl)
        case hq136 => exact fun _ _ _ h => h
        case hl136 => (simp only [List.setIfInBounds_toArray, List.set_cons_succ, List.set_cons_zero]; try rfl)
        case hw136 => rfl
        case hv136 =>
          intro W hW
          skip
          go_simp
          try with_reducible rfl
        case ha136 => (simp only [Act.put, List.setIfInBounds_toArray, List.set_cons_succ, List.set_cons_zero]; try rfl)
        refine rh_takeS (i := 12) (o := ?o137) (v := ?v137) (listed' := ?l137) (a' := ?a137) ?hi137 (by kernel_rfl) (by kernel_rfl) (by kernel_rfl) ?hq137 ?hl137 ?hw137 ?hv137 ?ha137 HS2.out ?hh137
        case hi137 => (simp only [List.getElem?_toArray, List.getElem?_cons_succ, List.getElem?_cons_zero]; try rfl)
        case hq137 => exact fun _ _ _ h => h
        case hl137 => (simp only [List.setIfInBounds_toArray, List.set_cons_succ, List.set_cons_zero]; try rfl)
        case hw137 => rfl
        case hv137 =>
          intro W hW
          skip
          go_simp
          try with_reducible rfl
        case ha137 => (simp only [Act.put, List.setIfInBounds_toArray, List.set_cons_succ, List.set_cons_zero]; try rfl)
        refine wpAnyH_ready (rs := [15]) (by kernel_rfl) (by simp) ?_
        refine rh_cons (i := 15) (o := ?o138) (listed' := ?l138) ?hi138 ?hl138 ?hg138 ?hh138 ?hs138
        case hi138 => (simp only [List.getElem?_toArray, List.getElem?_cons_succ, List.getElem?_cons_zero]; try rfl)
        case hl138 => (simp only [List.setIfInBounds_toArray, List.set_cons_succ, List.set_cons_zero]; try rfl)
        case hg138 => rfl
        case hs138 => exact AllReadyH.nil
        intro K hK
        go_simp
        refine (cKillers_nil cP16 1 _).mono ?_
        rintro z wa3 ⟨v, rfl, hv, hB⟩
        have HS3 := hid (HS2.out.trans (hB.mono HS2.out.size))
        obtain ⟨vg, vc, vn, rfl, hvn⟩ := OwnI.asSlice' hv
        obtain rfl : vn = 0 := hvn
        clear hB hv
        refine hK.out _ _ HS3.out ?_
        clear hK K
        refine rh_takeS (i := 16) (o := ?o139) (v := ?v139) (listed' := ?l139) (a' := ?a139) ?hi139 (by kernel_rfl) (by kernel_rfl) (by kernel_rfl) ?hq139 ?hl139 ?hw139 ?hv139 ?ha139 HS3.out ?hh139
        case hi139 => (simp only [List.getElem?_toArray, List.getElem?_cons_succ, List.getElem?_cons_zero]; try rfl)
        case hq139 => exact fun _ _ _ h => h
        case hl139 => (simp only [List.setIfInBounds_toArray, List.set_cons_succ, List.set_cons_zero]; try rfl)
        case hw139 => rfl
        case hv139 =>
          intro W hW
          skip
          go_simp
          try with_reducible rfl
        case ha139 => (simp only [Act.put, List.setIfInBounds_toArray, List.set_cons_succ, List.set_cons_zero]; try rfl)
        refine rh_takeS (i := 17) (o := ?o140) (v := ?v140) (listed' := ?l140) (a' := ?a140) ?hi140 (by kernel_rfl) (by kernel_rfl) (by kernel_rfl) ?hq140 ?hl140 ?hw140 ?hv140 ?ha140 HS3.out ?hh140
        case hi140 => (simp only [List.getElem?_toArray, List.getElem?_cons_succ, List.getElem?_cons_zero]; try rfl)
        case hq140 => exact fun _ _ _ h => h
        case hl140 => (simp only [List.setIfInBounds_toArray, List.set_cons_succ, List.set_cons_zero]; try rfl)
        case hw140 => rfl
        case hv140 =>
          intro W hW
          skip
          go_simp
          try with_reducible rfl
        case ha140 => (simp only [Act.put, List.setIfInBounds_toArray, List.set_cons_succ, List.set_cons_zero]; try rfl)
        refine wpAnyH_ready (rs := [20]) (by kernel_rfl) (by simp) ?_
        refine rh_cons (i := 20) (o := ?o141) (listed' := ?l141) ?hi141 ?hl141 ?hg141 ?hh141 ?hs141
        case hi141 => (simp only [List.getElem?_toArray, List.getElem?_cons_succ, List.getElem?_cons_zero]; try rfl)
        case hl141 => (simp only [List.setIfInBounds_toArray, List.set_cons_succ, List.set_cons_zero]; try rfl)
        case hg141 => rfl
        case hs141 => exact AllReadyH.nil
        intro K hK
        go_simp
        refine (cAbsent_nil cP16 1 none 0 0 true _).mono ?_
        rintro z wa4 ⟨v, rfl, hv, hB⟩
        have HS4 := hid (HS3.out.trans (hB.mono HS3.out.size))
        obtain ⟨vg, vc, vn, rfl, hvn⟩ := OwnI.asSlice' hv
        obtain rfl : vn = 0 := hvn
        clear hB hv
        refine hK.out _ _ HS4.out ?_
        clear hK K
        refine rh_takeS (i := 21) (o := ?o142) (v := ?v142) (listed' := ?l142) (a' := ?a142) ?hi142 (by kernel_rfl) (by kernel_rfl) (by kernel_rfl) ?hq142 ?hl142 ?hw142 ?hv142 ?ha142 HS4.out ?hh142
        case hi142 => (simp only [List.getElem?_toArray, List.getElem?_cons_succ, List.getElem?_cons_zero]; try rfl)
        case hq142 => exact fun _ _ _ h => h
        case hl142 => (simp only [List.setIfInBounds_toArray, List.set_cons_succ, List.set_cons_zero]; try rfl)
        case hw142 => rfl
        case hv142 =>
          intro W hW
          skip
          go_simp
          try with_reducible rfl
        case ha142 => (simp only [Act.put, List.setIfInBounds_toArray, List.set_cons_succ, List.set_cons_zero]; try rfl)
        refine rh_takeS (i := 22) (o := ?o143) (v := ?v143) (listed' := ?l143) (a' := ?a143) ?hi143 (by kernel_rfl) (by kernel_rfl) (by kernel_rfl) ?hq143 ?hl143 ?hw143 ?hv143 ?ha143 HS4.out ?hh143
        case hi143 => (simp only [List.getElem?_toArray, List.getElem?_cons_succ, List.getElem?_cons_zero]; try rfl)
        case hq143 => exact fun _ _ _ h => h
        case hl143 => (simp only [List.setIfInBounds_toArray, List.set_cons_succ, List.set_cons_zero]; try rfl)
        case hw143 => rfl
        case hv143 =>
          intro W hW
          skip
          go_simp
          try with_reducible rfl
        case ha143 => (simp only [Act.put, List.setIfInBounds_toArray, List.set_cons_succ, List.set_cons_zero]; try rfl)
        refine wpAnyH_ready (rs := [24]) (by kernel_rfl) (by simp) ?_
        refine rh_cons (i := 24) (o := ?o144) (listed' := ?l144) ?hi144 ?hl144 ?hg144 ?hh144 ?hs144
        case hi144 => (simp only [List.getElem?_toArray, List.getElem?_cons_succ, List.getElem?_cons_zero]; try rfl)
        case hl144 => (simp only [List.setIfInBounds_toArray, List.set_cons_succ, List.set_cons_zero]; try rfl)
        case hg144 => rfl
        case hs144 => exact AllReadyH.nil
        intro K hK
        go_simp
        refine (cChanged_nil _).mono ?_
        rintro z wa ⟨rfl, rfl⟩
        refine hK.out _ _ HS4.out ?_
        clear hK K
        refine rh_takeS (i := 25) (o := ?o145) (v := ?v145) (listed' := ?l145) (a' := ?a145) ?hi145 (by kernel_rfl) (by kernel_rfl) (by kernel_rfl) ?hq145 ?hl145 ?hw145 ?hv145 ?ha145 HS4.out ?hh145
        case hi145 => (simp only [List.getElem?_toArray, List.getElem?_cons_succ, List.getElem?_cons_zero]; try rfl)
        case hq145 => exact fun _ _ _ h => h
        case hl145 => (simp only [List.setIfInBounds_toArray, List.set_cons_succ, List.set_cons_zero]; try rfl)
        case hw145 => rfl
        case hv145 =>
          intro W hW
          skip
          go_simp
          try with_reducible rfl
        case ha145 => (simp only [Act.put, List.setIfInBounds_toArray, List.set_cons_succ, List.set_cons_zero]; try rfl)
        refine rh_takeS (i := 26) (o := ?o146) (v := ?v146) (listed' := ?l146) (a' := ?a146) ?hi146 (by kernel_rfl) (by kernel_rfl) (by kernel_rfl) ?hq146 ?hl146 ?hw146 ?hv146 ?ha146 HS4.out ?hh146
        case hi146 => (simp only [List.getElem?_toArray, List.getElem?_cons_succ, List.getElem?_cons_zero]; try rfl)
        case hq146 => exact fun _ _ _ h => h
        case hl146 => (simp only [List.setIfInBounds_toArray, List.set_cons_succ, List.set_cons_zero]; try rfl)
        case hw146 => rfl
        case hv146 =>
          intro W hW
          skip
          go_simp
          try with_reducible rfl
        case ha146 => (simp only [Act.put, List.setIfInBounds_toArray, List.set_cons_succ, List.set_cons_zero]; try rfl)
        refine rh_takeS (i := 27) (o := ?o147) (v := ?v147) (listed' := ?l147) (a' := ?a147) ?hi147 (by kernel_rfl) (by kernel_rfl) (by kernel_rfl) ?hq147 ?hl147 ?hw147 ?hv147 ?ha147 HS4.out ?hh147
        case hi147 => (simp only [List.getElem?_toArray, List.getElem?_cons_succ, List.getElem?_cons_zero]; try rfl)
        case hq147 => exact fun _ _ _ h => h
        case hl147 => (simp only [List.setIfInBounds_toArray, List.set_cons_succ, List.set_cons_zero]; try rfl)
        case hw147 => rfl
        case hv147 =>
          intro W hW
          skip
          go_simp
          try with_reducible rfl
        case ha147 => (simp only [Act.put, List.setIfInBounds_toArray, List.set_cons_succ, List.set_cons_zero]; try rfl)
        refine rh_takeS (i := 28) (o := ?o148) (v := ?v148) (listed' := ?l148) (a' := ?a148) ?hi148 (by kernel_rfl) (by kernel_rfl) (by kernel_rfl) ?hq148 ?hl148 ?hw148 ?hv148 ?ha148 HS4.out ?hh148
        case hi148 => (simp only [List.getElem?_toArray, List.getElem?_cons_succ, List.getElem?_cons_zero]; try rfl)
        case hq148 => exact fun _ _ _ h => h
        case hl148 => (simp only [List.setIfInBounds_toArray, List.set_cons_succ, List.set_cons_zero]; try rfl)
        case hw148 => rfl
        case hv148 =>
          intro W hW
          skip
          go_simp
          try with_reducible rfl
        case ha148 => (simp only [Act.put, List.setIfInBounds_toArray, List.set_cons_succ, List.set_cons_zero]; try rfl)
        refine wpAnyH_done (by kernel_rfl) ?_ _
        have HB6 := hid (HB5.out.trans (HS4.out.mono HB5.out.size))
        have HO6 := hid (heapB HO5.out HS4.out (Array.getElem?_eq_some_iff.1 HO5.out).1)
        clear HS0 HS1 HS2 HS3 HS4 HFT HO5 HB5
        go_wp2_with fail
        go_at_call 6
        refine (HIA.out _).mono ?_
        rintro e w7 ⟨rfl, hB⟩
        have HB7 := hid (HB6.out.trans (hB.mono HB6.out.size))
        have HO7 := hid (heapB HO6.out hB (Array.getElem?_eq_some_iff.1 HO6.out).1)
        clear hB HO6 HB6
        go_wp2_with fail
        go_at_call 24
        refine (cLearn_nil _).mono ?_
        rintro e we ⟨rfl, rfl⟩
        have d0 : w7.cell? ⟨wt.heap.size, 0, none⟩ = some (.int .i64 16) := (cellAt' HO7.out 0).trans rfl
        have d1 : w7.cell? ⟨wt.heap.size, 1, none⟩ = some (.int .i64 1) := (cellAt' HO7.out 1).trans rfl
        have d2 : w7.cell? ⟨wt.heap.size, 2, none⟩ = some (.int .i64 0) := (cellAt' HO7.out 2).trans rfl
        have d3 : w7.cell? ⟨wt.heap.size, 3, none⟩ = some (.int .i64 16) := (cellAt' HO7.out 3).trans rfl
        have d4 : w7.cell? ⟨wt.heap.size, 4, none⟩ = some (.int .i64 0) := (cellAt' HO7.out 4).trans rfl
        have d5 : w7.cell? ⟨wt.heap.size, 5, none⟩ = some (.int .i64 0) := (cellAt' HO7.out 5).trans rfl
        have d6 : w7.cell? ⟨wt.heap.size, 6, none⟩ = some (.int .i64 0) := (cellAt' HO7.out 6).trans rfl
        go_wp2_with (first
          | ((with_reducible refine wpList_buildG (x := ?bx148) ?bg148 ?bo148 ?b1148 ?bh148); (case bg148 => rfl); (case bo148 => rfl); (case b1148 => rfl))
          | fail)
        go_at_call 25
        refine (cPut_nil (newE cP16) _).mono ?_
        rintro e w8 ⟨rfl, hB⟩
        have HB8 := hid (HB7.out.trans (hB.mono HB7.out.size))
        clear hB HO7 HB7 d0 d1 d2 d3 d4 d5 d6
        go_wp2_with fail
        go_at_call 15
        refine (cNode_nil _).mono ?_
        rintro e we ⟨rfl, rfl⟩
        go_wp2_with fail
        go_at_call 14
        refine (cClock_nil _).mono ?_
        rintro e we ⟨rfl, rfl⟩
        go_wp2_with fail
        go_ret
        exact ⟨rfl, HB8.out⟩
  · rw [if_neg (by decide)] at hif
    obtain rfl := hif
    go_wp2_with fail
    have HFA : Hid (∀ W, Below w2.heap.size w2 W → W.cell? ⟨w.heap.size, 0, none⟩ = some (.int .i64 nd) ∧ W.cell? ⟨w.heap.size, 1, none⟩ = some (.int .i64 c)) := hid fun W hW => by
      have h0 := heapB HO2.out hW (Array.getElem?_eq_some_iff.1 HO2.out).1
      exact ⟨(cellAt' h0 0).trans rfl, (cellAt' h0 1).trans rfl⟩
    refine rh_start (S := fun W => Below w2.heap.size w2 W) (n := 12) (listed := #[false, false, false, false, false, false, false, false, false, false, false, false]) (by kernel_rfl) rfl rfl ?_
    have HS0 : Hid (Below w2.heap.size w2 w2.drew) := hid (belowDrew (Below.refl _ _))
    generalize World.drew w2 = wd at HS0 ⊢
    refine rh_takeS (i := 0) (o := ?o149) (v := ?v149) (listed' := ?l149) (a' := ?a149) ?hi149 (by kernel_rfl) (by kernel_rfl) (by kernel_rfl) ?hq149 ?hl149 ?hw149 ?hv149 ?ha149 HS0.out ?hh149
    case hi149 => (simp only [List.getElem?_toArray, List.getElem?_cons_zero]; try rfl)
    case hq149 => exact fun _ _ _ h => h
    case hl149 => (simp only [List.setIfInBounds_toArray, List.set_cons_zero]; try rfl)
    case hw149 => rfl
    case hv149 =>
      intro W hW
      obtain ⟨k0, k1⟩ := HFA.out W hW
      go_simp
      try with_reducible rfl
    case ha149 => (simp only [Act.put, List.setIfInBounds_toArray, List.set_cons_succ, List.set_cons_zero]; try rfl)
    refine rh_takeS (i := 1) (o := ?o150) (v := ?v150) (listed' := ?l150) (a' := ?a150) ?hi150 (by kernel_rfl) (by kernel_rfl) (by kernel_rfl) ?hq150 ?hl150 ?hw150 ?hv150 ?ha150 HS0.out ?hh150
    case hi150 => (simp only [List.getElem?_toArray, List.getElem?_cons_succ, List.getElem?_cons_zero]; try rfl)
    case hq150 => exact fun _ _ _ h => h
    case hl150 => (simp only [List.setIfInBounds_toArray, List.set_cons_succ, List.set_cons_zero]; try rfl)
    case hw150 => rfl
    case hv150 =>
      intro W hW
      obtain ⟨k0, k1⟩ := HFA.out W hW
      go_simp
      try with_reducible rfl
    case ha150 => (simp only [Act.put, List.setIfInBounds_toArray, List.set_cons_succ, List.set_cons_zero]; try rfl)
    refine rh_takeS (i := 2) (o := ?o151) (v := ?v151) (listed' := ?l151) (a' := ?a151) ?hi151 (by kernel_rfl) (by kernel_rfl) (by kernel_rfl) ?hq151 ?hl151 ?hw151 ?hv151 ?ha151 HS0.out ?hh151
    case hi151 => (simp only [List.getElem?_toArray, List.getElem?_cons_succ, List.getElem?_cons_zero]; try rfl)
    case hq151 => exact fun _ _ _ h => h
    case hl151 => (simp only [List.setIfInBounds_toArray, List.set_cons_succ, List.set_cons_zero]; try rfl)
    case hw151 => rfl
    case hv151 =>
      intro W hW
      obtain ⟨k0, k1⟩ := HFA.out W hW
      go_simp
      try with_reducible rfl
    case ha151 => (simp only [Act.put, List.setIfInBounds_toArray, List.set_cons_succ, List.set_cons_zero]; try rfl)
    refine rh_takeS (i := 3) (o := ?o152) (v := ?v152) (listed' := ?l152) (a' := ?a152) ?hi152 (by kernel_rfl) (by kernel_rfl) (by kernel_rfl) ?hq152 ?hl152 ?hw152 ?hv152 ?ha152 HS0.out ?hh152
    case hi152 => (simp only [List.getElem?_toArray, List.getElem?_cons_succ, List.getElem?_cons_zero]; try rfl)
    case hq152 => exact fun _ _ _ h => h
    case hl152 => (simp only [List.setIfInBounds_toArray, List.set_cons_succ, List.set_cons_zero]; try rfl)
    case hw152 => rfl
    case hv152 =>
      intro W hW
      obtain ⟨k0, k1⟩ := HFA.out W hW
      go_simp
      try with_reducible rfl
    case ha152 => (simp only [Act.put, List.setIfInBounds_toArray, List.set_cons_succ, List.set_cons_zero]; try rfl)
    refine rh_takeS (i := 4) (o := ?o153) (v := ?v153) (listed' := ?l153) (a' := ?a153) ?hi153 (by kernel_rfl) (by kernel_rfl) (by kernel_rfl) ?hq153 ?hl153 ?hw153 ?hv153 ?ha153 HS0.out ?hh153
    case hi153 => (simp only [List.getElem?_toArray, List.getElem?_cons_succ, List.getElem?_cons_zero]; try rfl)
    case hq153 => exact fun _ _ _ h => h
    case hl153 => (simp only [List.setIfInBounds_toArray, List.set_cons_succ, List.set_cons_zero]; try rfl)
    case hw153 => rfl
    case hv153 =>
      intro W hW
      obtain ⟨k0, k1⟩ := HFA.out W hW
      go_simp
      try with_reducible rfl
    case ha153 => (simp only [Act.put, List.setIfInBounds_toArray, List.set_cons_succ, List.set_cons_zero]; try rfl)
    refine wpAnyH_ready (rs := [5]) (by kernel_rfl) (by simp) ?_
    refine rh_cons (i := 5) (o := ?o154) (listed' := ?l154) ?hi154 ?hl154 ?hg154 ?hh154 ?hs154
    case hi154 => (simp only [List.getElem?_toArray, List.getElem?_cons_succ, List.getElem?_cons_zero]; try rfl)
    case hl154 => (simp only [List.setIfInBounds_toArray, List.set_cons_succ, List.set_cons_zero]; try rfl)
    case hg154 => rfl
    case hs154 => exact AllReadyH.nil
    intro K hK
    go_simp
    refine (rOf ((HSE.out.on HB2.out).on HS0.out) (by have := HL40.out; simp; omega)).mono ?_
    rintro z wa ⟨va, rfl, hv, hB⟩
    have HSa := hid (HS0.out.trans (hB.mono HS0.out.size))
    have HVa := hid (OwnG.slG kE hv)
    clear hv hB
    refine hK.out _ _ HSa.out ?_
    clear hK K
    refine wpAnyH_ready (rs := [6]) (by kernel_rfl) (by simp) ?_
    refine rh_cons (i := 6) (o := ?o155) (listed' := ?l155) ?hi155 ?hl155 ?hg155 ?hh155 ?hs155
    case hi155 => (simp only [List.getElem?_toArray, List.getElem?_cons_succ, List.getElem?_cons_zero]; try rfl)
    case hl155 => (simp only [List.setIfInBounds_toArray, List.set_cons_succ, List.set_cons_zero]; try rfl)
    case hg155 => rfl
    case hs155 => exact AllReadyH.nil
    intro K hK
    have hq := rINew HVa.out ((HAA.out.on HB2.out).on HSa.out) (fun y hy => short_mono (HSH.out y hy) (by decide)) (by have := HL40.out; omega) nd c HRR.out
    go_simp
    refine hq.mono ?_
    rintro z w3 ⟨hB, hif2⟩
    have HS3 := hid (HSa.out.trans (hB.mono HSa.out.size))
    rw [if_neg (by decide)] at hif2
    obtain rfl := hif2
    clear hq hB
    refine hK.out _ _ HS3.out ?_
    clear hK K
    refine rh_takeS (i := 7) (o := ?o156) (v := ?v156) (listed' := ?l156) (a' := ?a156) ?hi156 (by kernel_rfl) (by kernel_rfl) (by kernel_rfl) ?hq156 ?hl156 ?hw156 ?hv156 ?ha156 HS3.out ?hh156
    case hi156 => (simp only [List.getElem?_toArray, List.getElem?_cons_succ, List.getElem?_cons_zero]; try rfl)
    case hq156 => exact fun _ _ _ h => h
    case hl156 => (simp only [List.setIfInBounds_toArray, List.set_cons_succ, List.set_cons_zero]; try rfl)
    case hw156 => rfl
    case hv156 =>
      intro W hW
      skip
      go_simp
      try with_reducible rfl
    case ha156 => (simp only [Act.put, List.setIfInBounds_toArray, List.set_cons_succ, List.set_cons_zero]; try rfl)
    refine rh_takeS (i := 8) (o := ?o157) (v := ?v157) (listed' := ?l157) (a' := ?a157) ?hi157 (by kernel_rfl) (by kernel_rfl) (by kernel_rfl) ?hq157 ?hl157 ?hw157 ?hv157 ?ha157 HS3.out ?hh157
    case hi157 => (simp only [List.getElem?_toArray, List.getElem?_cons_succ, List.getElem?_cons_zero]; try rfl)
    case hq157 => exact fun _ _ _ h => h
    case hl157 => (simp only [List.setIfInBounds_toArray, List.set_cons_succ, List.set_cons_zero]; try rfl)
    case hw157 => rfl
    case hv157 =>
      intro W hW
      skip
      go_simp
      try with_reducible rfl
    case ha157 => (simp only [Act.put, List.setIfInBounds_toArray, List.set_cons_succ, List.set_cons_zero]; try rfl)
    refine rh_takeS (i := 9) (o := ?o158) (v := ?v158) (listed' := ?l158) (a' := ?a158) ?hi158 (by kernel_rfl) (by kernel_rfl) (by kernel_rfl) ?hq158 ?hl158 ?hw158 ?hv158 ?ha158 HS3.out ?hh158
    case hi158 => (simp only [List.getElem?_toArray, List.getElem?_cons_succ, List.getElem?_cons_zero]; try rfl)
    case hq158 => exact fun _ _ _ h => h
    case hl158 => (simp only [List.setIfInBounds_toArray, List.set_cons_succ, List.set_cons_zero]; try rfl)
    case hw158 => rfl
    case hv158 =>
      intro W hW
      skip
      go_simp
      try with_reducible rfl
    case ha158 => (simp only [Act.put, List.setIfInBounds_toArray, List.set_cons_succ, List.set_cons_zero]; try rfl)
    refine rh_takeS (i := 10) (o := ?o159) (v := ?v159) (listed' := ?l159) (a' := ?a159) ?hi159 (by kernel_rfl) (by kernel_rfl) (by kernel_rfl) ?hq159 ?hl159 ?hw159 ?hv159 ?ha159 HS3.out ?hh159
    case hi159 => (simp only [List.getElem?_toArray, List.getElem?_cons_succ, List.getElem?_cons_zero]; try rfl)
    case hq159 => exact fun _ _ _ h => h
    case hl159 => (simp only [List.setIfInBounds_toArray, List.set_cons_succ, List.set_cons_zero]; try rfl)
    case hw159 => rfl
    case hv159 =>
      intro W hW
      skip
      go_simp
      try with_reducible rfl
    case ha159 => (simp only [Act.put, List.setIfInBounds_toArray, List.set_cons_succ, List.set_cons_zero]; try rfl)
    refine rh_takeS (i := 11) (o := ?o160) (v := ?v160) (listed' := ?l160) (a' := ?a160) ?hi160 (by kernel_rfl) (by kernel_rfl) (by kernel_rfl) ?hq160 ?hl160 ?hw160 ?hv160 ?ha160 HS3.out ?hh160
    case hi160 => (simp only [List.getElem?_toArray, List.getElem?_cons_succ, List.getElem?_cons_zero]; try rfl)
    case hq160 => exact fun _ _ _ h => h
    case hl160 => (simp only [List.setIfInBounds_toArray, List.set_cons_succ, List.set_cons_zero]; try rfl)
    case hw160 => rfl
    case hv160 =>
      intro W hW
      skip
      go_simp
      try with_reducible rfl
    case ha160 => (simp only [Act.put, List.setIfInBounds_toArray, List.set_cons_succ, List.set_cons_zero]; try rfl)
    refine wpAnyH_done (by kernel_rfl) ?_ _
    have HB3 := hid (HB2.out.trans (HS3.out.mono HB2.out.size))
    clear HS0 HSa HVa HFA
    go_wp2_with fail
    go_loopw [12] (fun i wr => i = .int .i64 0 ∧ wr = w3) (fun i _ => 0)
    case atStart => exact ⟨rfl, rfl⟩
    case round =>
      obtain ⟨rfl, rfl⟩ := hrel
      by_cases hm0 : (0 : Int) < m
      · go_wp2_with fail
        go_at_call 16
        refine (cSee_nil 16 wr).mono ?_
        rintro e we ⟨rfl, rfl⟩
        go_wp2_with fail
        go_at_call 17
        refine (cTick_nil _).mono ?_
        rintro e we ⟨rfl, rfl⟩
        go_wp2_with fail
        go_at_call 18
        refine (cGet_nil _ _).mono ?_
        rintro e wg ⟨rfl, hB⟩
        have HBg := hid (HB3.out.trans (hB.mono HB3.out.size))
        clear hB
        go_wp2_with (first
          | ((with_reducible refine storeC (x := ?sx160) (y := ?sy160) (b := wg.heap.size) (T := 44) zE ?sg160 ?so160 ?sxx160 ?syy160 ?sc160 ?sh160); (case sg160 => rfl); (case so160 => rfl); (case sxx160 => rfl); (case syy160 => rfl); (case sc160 => exact Ob.room (e := zE) (laid1_0 wg zeroEc)); intro wt hO hU; have HBt := hid (HBg.out.trans (((laid1_b wg zeroEc).trans (hU.below wg.heap.size (Nat.le_refl _))).mono HBg.out.size)); clear hO hU)
          | fail)
        have HO5 := hid (heap_alloc_new wt (.cells #[.int .i64 16, .int .i64 1, .int .i64 0, .int .i64 16, .int .i64 0, .int .i64 0, .int .i64 0] 40))
        have HB5 := hid (HBt.out.trans ((laid1_b wt (.cells #[.int .i64 16, .int .i64 1, .int .i64 0, .int .i64 16, .int .i64 0, .int .i64 0, .int .i64 0] 40)).mono HBt.out.size))
        generalize wt.alloc (.cells #[.int .i64 16, .int .i64 1, .int .i64 0, .int .i64 16, .int .i64 0, .int .i64 0, .int .i64 0] 40) = W5 at HO5 HB5 ⊢
        have HFT : Hid (∀ W, Below W5.heap.size W5 W → W.cell? ⟨wt.heap.size, 0, none⟩ = some (.int .i64 16) ∧ W.cell? ⟨wt.heap.size, 1, none⟩ = some (.int .i64 1) ∧ W.cell? ⟨wt.heap.size, 2, none⟩ = some (.int .i64 0) ∧ W.cell? ⟨wt.heap.size, 3, none⟩ = some (.int .i64 16) ∧ W.cell? ⟨wt.heap.size, 4, none⟩ = some (.int .i64 0) ∧ W.cell? ⟨wt.heap.size, 5, none⟩ = some (.int .i64 0) ∧ W.cell? ⟨wt.heap.size, 6, none⟩ = some (.int .i64 0)) := hid fun W hW => by
          have h0 := heapB HO5.out hW (Array.getElem?_eq_some_iff.1 HO5.out).1
          exact ⟨(cellAt' h0 0).trans rfl, (cellAt' h0 1).trans rfl, (cellAt' h0 2).trans rfl, (cellAt' h0 3).trans rfl, (cellAt' h0 4).trans rfl, (cellAt' h0 5).trans rfl, (cellAt' h0 6).trans rfl⟩
        refine rh_start (S := fun W => Below W5.heap.size W5 W) (n := 29) (listed := #[false, false, false, false, false, false, false, false, false, false, false, false, false, false, false, false, false, false, false, false, false, false, false, false, false, false, false, false, false]) (by kernel_rfl) rfl rfl ?_
        have HS0 : Hid (Below W5.heap.size W5 W5.drew) := hid (belowDrew (Below.refl _ W5))
        generalize World.drew W5 = wd at HS0 ⊢
        refine rh_takeS (i := 0) (o := ?o161) (v := ?v161) (listed' := ?l161) (a' := ?a161) ?hi161 (by kernel_rfl) (by kernel_rfl) (by kernel_rfl) ?hq161 ?hl161 ?hw161 ?hv161 ?ha161 HS0.out ?hh161
        case hi161 => (simp only [List.getElem?_toArray, List.getElem?_cons_zero]; try rfl)
        case hq161 => exact fun _ _ _ h => h
        case hl161 => (simp only [List.setIfInBounds_toArray, List.set_cons_zero]; try rfl)
        case hw161 => rfl
        case hv161 =>
          intro W hW
          obtain ⟨d0, d1, d2, d3, d4, d5, d6⟩ := HFT.out W hW
          go_simp
          try with_reducible rfl
        case ha161 => (simp only [Act.put, List.setIfInBounds_toArray, List.set_cons_succ, List.set_cons_zero]; try rfl)
        refine rh_takeS (i := 3) (o := ?o162) (v := ?v162) (listed' := ?l162) (a' := ?a162) ?hi162 (by kernel_rfl) (by kernel_rfl) (by kernel_rfl) ?hq162 ?hl162 ?hw162 ?hv162 ?ha162 HS0.out ?hh162
        case hi162 => (simp only [List.getElem?_toArray, List.getElem?_cons_succ, List.getElem?_cons_zero]; try rfl)
        case hq162 => exact fun _ _ _ h => h
        case hl162 => (simp only [List.setIfInBounds_toArray, List.set_cons_succ, List.set_cons_zero]; try rfl)
        case hw162 => rfl
        case hv162 =>
          intro W hW
          obtain ⟨d0, d1, d2, d3, d4, d5, d6⟩ := HFT.out W hW
          go_simp
          try with_reducible rfl
        case ha162 => (simp only [Act.put, List.setIfInBounds_toArray, List.set_cons_succ, List.set_cons_zero]; try rfl)
        refine rh_takeS (i := 4) (o := ?o163) (v := ?v163) (listed' := ?l163) (a' := ?a163) ?hi163 (by kernel_rfl) (by kernel_rfl) (by kernel_rfl) ?hq163 ?hl163 ?hw163 ?hv163 ?ha163 HS0.out ?hh163
        case hi163 => (simp only [List.getElem?_toArray, List.getElem?_cons_succ, List.getElem?_cons_zero]; try rfl)
        case hq163 => exact fun _ _ _ h => h
        case hl163 => (simp only [List.setIfInBounds_toArray, List.set_cons_succ, List.set_cons_zero]; try rfl)
        case hw163 => rfl
        case hv163 =>
          intro W hW
          obtain ⟨d0, d1, d2, d3, d4, d5, d6⟩ := HFT.out W hW
          go_simp
          try with_reducible rfl
        case ha163 => (simp only [Act.put, List.setIfInBounds_toArray, List.set_cons_succ, List.set_cons_zero]; try rfl)
        refine rh_takeS (i := 8) (o := ?o164) (v := ?v164) (listed' := ?l164) (a' := ?a164) ?hi164 (by kernel_rfl) (by kernel_rfl) (by kernel_rfl) ?hq164 ?hl164 ?hw164 ?hv164 ?ha164 HS0.out ?hh164
        case hi164 => (simp only [List.getElem?_toArray, List.getElem?_cons_succ, List.getElem?_cons_zero]; try rfl)
        case hq164 => exact fun _ _ _ h => h
        case hl164 => (simp only [List.setIfInBounds_toArray, List.set_cons_succ, List.set_cons_zero]; try rfl)
        case hw164 => rfl
        case hv164 =>
          intro W hW
          obtain ⟨d0, d1, d2, d3, d4, d5, d6⟩ := HFT.out W hW
          go_simp
          try with_reducible rfl
        case ha164 => (simp only [Act.put, List.setIfInBounds_toArray, List.set_cons_succ, List.set_cons_zero]; try rfl)
        refine rh_takeS (i := 9) (o := ?o165) (v := ?v165) (listed' := ?l165) (a' := ?a165) ?hi165 (by kernel_rfl) (by kernel_rfl) (by kernel_rfl) ?hq165 ?hl165 ?hw165 ?hv165 ?ha165 HS0.out ?hh165
        case hi165 => (simp only [List.getElem?_toArray, List.getElem?_cons_succ, List.getElem?_cons_zero]; try rfl)
        case hq165 => exact fun _ _ _ h => h
        case hl165 => (simp only [List.setIfInBounds_toArray, List.set_cons_succ, List.set_cons_zero]; try rfl)
        case hw165 => rfl
        case hv165 =>
          intro W hW
          obtain ⟨d0, d1, d2, d3, d4, d5, d6⟩ := HFT.out W hW
          go_simp
          try with_reducible rfl
        case ha165 => (simp only [Act.put, List.setIfInBounds_toArray, List.set_cons_succ, List.set_cons_zero]; try rfl)
        refine rh_takeS (i := 13) (o := ?o166) (v := ?v166) (listed' := ?l166) (a' := ?a166) ?hi166 (by kernel_rfl) (by kernel_rfl) (by kernel_rfl) ?hq166 ?hl166 ?hw166 ?hv166 ?ha166 HS0.out ?hh166
        case hi166 => (simp only [List.getElem?_toArray, List.getElem?_cons_succ, List.getElem?_cons_zero]; try rfl)
        case hq166 => exact fun _ _ _ h => h
        case hl166 => (simp only [List.setIfInBounds_toArray, List.set_cons_succ, List.set_cons_zero]; try rfl)
        case hw166 => rfl
        case hv166 =>
          intro W hW
          obtain ⟨d0, d1, d2, d3, d4, d5, d6⟩ := HFT.out W hW
          go_simp
          try with_reducible rfl
        case ha166 => (simp only [Act.put, List.setIfInBounds_toArray, List.set_cons_succ, List.set_cons_zero]; try rfl)
        refine rh_takeS (i := 14) (o := ?o167) (v := ?v167) (listed' := ?l167) (a' := ?a167) ?hi167 (by kernel_rfl) (by kernel_rfl) (by kernel_rfl) ?hq167 ?hl167 ?hw167 ?hv167 ?ha167 HS0.out ?hh167
        case hi167 => (simp only [List.getElem?_toArray, List.getElem?_cons_succ, List.getElem?_cons_zero]; try rfl)
        case hq167 => exact fun _ _ _ h => h
        case hl167 => (simp only [List.setIfInBounds_toArray, List.set_cons_succ, List.set_cons_zero]; try rfl)
        case hw167 => rfl
        case hv167 =>
          intro W hW
          obtain ⟨d0, d1, d2, d3, d4, d5, d6⟩ := HFT.out W hW
          go_simp
          try with_reducible rfl
        case ha167 => (simp only [Act.put, List.setIfInBounds_toArray, List.set_cons_succ, List.set_cons_zero]; try rfl)
        refine rh_takeS (i := 18) (o := ?o168) (v := ?v168) (listed' := ?l168) (a' := ?a168) ?hi168 (by kernel_rfl) (by kernel_rfl) (by kernel_rfl) ?hq168 ?hl168 ?hw168 ?hv168 ?ha168 HS0.out ?hh168
        case hi168 => (simp only [List.getElem?_toArray, List.getElem?_cons_succ, List.getElem?_cons_zero]; try rfl)
        case hq168 => exact fun _ _ _ h => h
        case hl168 => (simp only [List.setIfInBounds_toArray, List.set_cons_succ, List.set_cons_zero]; try rfl)
        case hw168 => rfl
        case hv168 =>
          intro W hW
          obtain ⟨d0, d1, d2, d3, d4, d5, d6⟩ := HFT.out W hW
          go_simp
          try with_reducible rfl
        case ha168 => (simp only [Act.put, List.setIfInBounds_toArray, List.set_cons_succ, List.set_cons_zero]; try rfl)
        refine rh_takeS (i := 19) (o := ?o169) (v := ?v169) (listed' := ?l169) (a' := ?a169) ?hi169 (by kernel_rfl) (by kernel_rfl) (by kernel_rfl) ?hq169 ?hl169 ?hw169 ?hv169 ?ha169 HS0.out ?hh169
        case hi169 => (simp only [List.getElem?_toArray, List.getElem?_cons_succ, List.getElem?_cons_zero]; try rfl)
        case hq169 => exact fun _ _ _ h => h
        case hl169 => (simp only [List.setIfInBounds_toArray, List.set_cons_succ, List.set_cons_zero]; try rfl)
        case hw169 => rfl
        case hv169 =>
          intro W hW
          obtain ⟨d0, d1, d2, d3, d4, d5, d6⟩ := HFT.out W hW
          go_simp
          try with_reducible rfl
        case ha169 => (simp only [Act.put, List.setIfInBounds_toArray, List.set_cons_succ, List.set_cons_zero]; try rfl)
        refine rh_takeS (i := 23) (o := ?o170) (v := ?v170) (listed' := ?l170) (a' := ?a170) ?hi170 (by kernel_rfl) (by kernel_rfl) (by kernel_rfl) ?hq170 ?hl170 ?hw170 ?hv170 ?ha170 HS0.out ?hh170
        case hi170 => (simp only [List.getElem?_toArray, List.getElem?_cons_succ, List.getElem?_cons_zero]; try rfl)
        case hq170 => exact fun _ _ _ h => h
        case hl170 => (simp only [List.setIfInBounds_toArray, List.set_cons_succ, List.set_cons_zero]; try rfl)
        case hw170 => rfl
        case hv170 =>
          intro W hW
          obtain ⟨d0, d1, d2, d3, d4, d5, d6⟩ := HFT.out W hW
          go_simp
          try with_reducible rfl
        case ha170 => (simp only [Act.put, List.setIfInBounds_toArray, List.set_cons_succ, List.set_cons_zero]; try rfl)
        refine wpAnyH_ready (rs := [1]) (by kernel_rfl) (by simp) ?_
        refine rh_cons (i := 1) (o := ?o171) (listed' := ?l171) ?hi171 ?hl171 ?hg171 ?hh171 ?hs171
        case hi171 => (simp only [List.getElem?_toArray, List.getElem?_cons_succ, List.getElem?_cons_zero]; try rfl)
        case hl171 => (simp only [List.setIfInBounds_toArray, List.set_cons_succ, List.set_cons_zero]; try rfl)
        case hg171 => rfl
        case hs171 => exact AllReadyH.nil
        intro K hK
        go_simp
        refine (cAll_nil _).mono ?_
        rintro z wa ⟨rfl, rfl⟩
        refine hK.out _ _ HS0.out ?_
        clear hK K
        refine rh_takeS (i := 2) (o := ?o172) (v := ?v172) (listed' := ?l172) (a' := ?a172) ?hi172 (by kernel_rfl) (by kernel_rfl) (by kernel_rfl) ?hq172 ?hl172 ?hw172 ?hv172 ?ha172 HS0.out ?hh172
        case hi172 => (simp only [List.getElem?_toArray, List.getElem?_cons_succ, List.getElem?_cons_zero]; try rfl)
        case hq172 => exact fun _ _ _ h => h
        case hl172 => (simp only [List.setIfInBounds_toArray, List.set_cons_succ, List.set_cons_zero]; try rfl)
        case hw172 => rfl
        case hv172 =>
          intro W hW
          skip
          go_simp
          try with_reducible rfl
        case ha172 => (simp only [Act.put, List.setIfInBounds_toArray, List.set_cons_succ, List.set_cons_zero]; try rfl)
        refine wpAnyH_ready (rs := [5]) (by kernel_rfl) (by simp) ?_
        refine rh_cons (i := 5) (o := ?o173) (listed' := ?l173) ?hi173 ?hl173 ?hg173 ?hh173 ?hs173
        case hi173 => (simp only [List.getElem?_toArray, List.getElem?_cons_succ, List.getElem?_cons_zero]; try rfl)
        case hl173 => (simp only [List.setIfInBounds_toArray, List.set_cons_succ, List.set_cons_zero]; try rfl)
        case hg173 => rfl
        case hs173 => exact AllReadyH.nil
        intro K hK
        go_simp
        refine (cPred_nil cP16 1 _).mono ?_
        rintro z wa ⟨rfl, hB⟩
        have HS1 := hid (HS0.out.trans (hB.mono HS0.out.size))
        clear hB
        refine hK.out _ _ HS1.out ?_
        clear hK K
        refine rh_takeS (i := 6) (o := ?o174) (v := ?v174) (listed' := ?l174) (a' := ?a174) ?hi174 (by kernel_rfl) (by kernel_rfl) (by kernel_rfl) ?hq174 ?hl174 ?hw174 ?hv174 ?ha174 HS1.out ?hh174
        case hi174 => (simp only [List.getElem?_toArray, List.getElem?_cons_succ, List.getElem?_cons_zero]; try rfl)
        case hq174 => exact fun _ _ _ h => h
        case hl174 => (simp only [List.setIfInBounds_toArray, List.set_cons_succ, List.set_cons_zero]; try rfl)
        case hw174 => rfl
        case hv174 =>
          intro W hW
          skip
          go_simp
          try with_reducible rfl
        case ha174 => (simp only [Act.put, List.setIfInBounds_toArray, List.set_cons_succ, List.set_cons_zero]; try rfl)
        refine rh_takeS (i := 7) (o := ?o175) (v := ?v175) (listed' := ?l175) (a' := ?a175) ?hi175 (by kernel_rfl) (by kernel_rfl) (by kernel_rfl) ?hq175 ?hl175 ?hw175 ?hv175 ?ha175 HS1.out ?hh175
        case hi175 => (simp only [List.getElem?_toArray, List.getElem?_cons_succ, List.getElem?_cons_zero]; try rfl)
        case hq175 => exact fun _ _ _ h => h
        case hl175 => (simp only [List.setIfInBounds_toArray, List.set_cons_succ, List.set_cons_zero]; try rfl)
        case hw175 => rfl
        case hv175 =>
          intro W hW
          skip
          go_simp
          try with_reducible rfl
        case ha175 => (simp only [Act.put, List.setIfInBounds_toArray, List.set_cons_succ, List.set_cons_zero]; try rfl)
        refine wpAnyH_ready (rs := [10]) (by kernel_rfl) (by simp) ?_
        refine rh_cons (i := 10) (o := ?o176) (listed' := ?l176) ?hi176 ?hl176 ?hg176 ?hh176 ?hs176
        case hi176 => (simp only [List.getElem?_toArray, List.getElem?_cons_succ, List.getElem?_cons_zero]; try rfl)
        case hl176 => (simp only [List.setIfInBounds_toArray, List.set_cons_succ, List.set_cons_zero]; try rfl)
        case hg176 => rfl
        case hs176 => exact AllReadyH.nil
        intro K hK
        go_simp
        refine (cHolders_nil cP16 1 _).mono ?_
        rintro z wa2 ⟨v, rfl, hv, hB⟩
        have HS2 := hid (HS1.out.trans (hB.mono HS1.out.size))
        obtain ⟨vg, vc, vn, rfl, hvn⟩ := OwnI.asSlice' hv
        obtain rfl : vn = 0 := hvn
        clear hB hv
        refine hK.out _ _ HS2.out ?_
        clear hK K
        refine rh_takeS (i := 11) (o := ?o177) (v := ?v177) (listed' := ?l177) (a' := ?a177) ?hi177 (by kernel_rfl) (by kernel_rfl) (by kernel_rfl) ?hq177 ?hl177 ?hw177 ?hv177 ?ha177 HS2.out ?hh177
        case hi177 => (simp only [List.getElem?_toArray, List.getElem?_cons_succ, List.getElem?_cons_zero]; try rfl)
        case hq177 => exact fun _ _ _ h => h
        case hl177 => (simp only [List.setIfInBounds_toArray, List.set_cons_succ, List.set_cons_zero]; try rfl)
        case hw177 => rfl
        case hv177 =>
          intro W hW
          skip
          go_simp
          try with_reducible rfl
        case ha177 => (simp only [Act.put, List.setIfInBounds_toArray, List.set_cons_succ, List.set_cons_zero]; try rfl)
        refine rh_takeS (i := 12) (o := ?o178) (v := ?v178) (listed' := ?l178) (a' := ?a178) ?hi178 (by kernel_rfl) (by kernel_rfl) (by kernel_rfl) ?hq178 ?hl178 ?hw178 ?hv178 ?ha178 HS2.out ?hh178
        case hi178 => (simp only [List.getElem?_toArray, List.getElem?_cons_succ, List.getElem?_cons_zero]; try rfl)
        case hq178 => exact fun _ _ _ h => h
        case hl178 => (simp only [List.setIfInBounds_toArray, List.set_cons_succ, List.set_cons_zero]; try rfl)
        case hw178 => rfl
        case hv178 =>
          intro W hW
          skip
          go_simp
          try with_reducible rfl
        case ha178 => (simp only [Act.put, List.setIfInBounds_toArray, List.set_cons_succ, List.set_cons_zero]; try rfl)
        refine wpAnyH_ready (rs := [15]) (by kernel_rfl) (by simp) ?_
        refine rh_cons (i := 15) (o := ?o179) (listed' := ?l179) ?hi179 ?hl179 ?hg179 ?hh179 ?hs179
        case hi179 => (simp only [List.getElem?_toArray, List.getElem?_cons_succ, List.getElem?_cons_zero]; try rfl)
        case hl179 => (simp only [List.setIfInBounds_toArray, List.set_cons_succ, List.set_cons_zero]; try rfl)
        case hg179 => rfl
        case hs179 => exact AllReadyH.nil
        intro K hK
        go_simp
        refine (cKillers_nil cP16 1 _).mono ?_
        rintro z wa3 ⟨v, rfl, hv, hB⟩
        have HS3 := hid (HS2.out.trans (hB.mono HS2.out.size))
        obtain ⟨vg, vc, vn, rfl, hvn⟩ := OwnI.asSlice' hv
        obtain rfl : vn = 0 := hvn
        clear hB hv
        refine hK.out _ _ HS3.out ?_
        clear hK K
        refine rh_takeS (i := 16) (o := ?o180) (v := ?v180) (listed' := ?l180) (a' := ?a180) ?hi180 (by kernel_rfl) (by kernel_rfl) (by kernel_rfl) ?hq180 ?hl180 ?hw180 ?hv180 ?ha180 HS3.out ?hh180
        case hi180 => (simp only [List.getElem?_toArray, List.getElem?_cons_succ, List.getElem?_cons_zero]; try rfl)
        case hq180 => exact fun _ _ _ h => h
        case hl180 => (simp only [List.setIfInBounds_toArray, List.set_cons_succ, List.set_cons_zero]; try rfl)
        case hw180 => rfl
        case hv180 =>
          intro W hW
          skip
          go_simp
          try with_reducible rfl
        case ha180 => (simp only [Act.put, List.setIfInBounds_toArray, List.set_cons_succ, List.set_cons_zero]; try rfl)
        refine rh_takeS (i := 17) (o := ?o181) (v := ?v181) (listed' := ?l181) (a' := ?a181) ?hi181 (by kernel_rfl) (by kernel_rfl) (by kernel_rfl) ?hq181 ?hl181 ?hw181 ?hv181 ?ha181 HS3.out ?hh181
        case hi181 => (simp only [List.getElem?_toArray, List.getElem?_cons_succ, List.getElem?_cons_zero]; try rfl)
        case hq181 => exact fun _ _ _ h => h
        case hl181 => (simp only [List.setIfInBounds_toArray, List.set_cons_succ, List.set_cons_zero]; try rfl)
        case hw181 => rfl
        case hv181 =>
          intro W hW
          skip
          go_simp
          try with_reducible rfl
        case ha181 => (simp only [Act.put, List.setIfInBounds_toArray, List.set_cons_succ, List.set_cons_zero]; try rfl)
        refine wpAnyH_ready (rs := [20]) (by kernel_rfl) (by simp) ?_
        refine rh_cons (i := 20) (o := ?o182) (listed' := ?l182) ?hi182 ?hl182 ?hg182 ?hh182 ?hs182
        case hi182 => (simp only [List.getElem?_toArray, List.getElem?_cons_succ, List.getElem?_cons_zero]; try rfl)
        case hl182 => (simp only [List.setIfInBounds_toArray, List.set_cons_succ, List.set_cons_zero]; try rfl)
        case hg182 => rfl
        case hs182 => exact AllReadyH.nil
        intro K hK
        go_simp
        refine (cAbsent_nil cP16 1 none 0 0 true _).mono ?_
        rintro z wa4 ⟨v, rfl, hv, hB⟩
        have HS4 := hid (HS3.out.trans (hB.mono HS3.out.size))
        obtain ⟨vg, vc, vn, rfl, hvn⟩ := OwnI.asSlice' hv
        obtain rfl : vn = 0 := hvn
        clear hB hv
        refine hK.out _ _ HS4.out ?_
        clear hK K
        refine rh_takeS (i := 21) (o := ?o183) (v := ?v183) (listed' := ?l183) (a' := ?a183) ?hi183 (by kernel_rfl) (by kernel_rfl) (by kernel_rfl) ?hq183 ?hl183 ?hw183 ?hv183 ?ha183 HS4.out ?hh183
        case hi183 => (simp only [List.getElem?_toArray, List.getElem?_cons_succ, List.getElem?_cons_zero]; try rfl)
        case hq183 => exact fun _ _ _ h => h
        case hl183 => (simp only [List.setIfInBounds_toArray, List.set_cons_succ, List.set_cons_zero]; try rfl)
        case hw183 => rfl
        case hv183 =>
          intro W hW
          skip
          go_simp
          try with_reducible rfl
        case ha183 => (simp only [Act.put, List.setIfInBounds_toArray, List.set_cons_succ, List.set_cons_zero]; try rfl)
        refine rh_takeS (i := 22) (o := ?o184) (v := ?v184) (listed' := ?l184) (a' := ?a184) ?hi184 (by kernel_rfl) (by kernel_rfl) (by kernel_rfl) ?hq184 ?hl184 ?hw184 ?hv184 ?ha184 HS4.out ?hh184
        case hi184 => (simp only [List.getElem?_toArray, List.getElem?_cons_succ, List.getElem?_cons_zero]; try rfl)
        case hq184 => exact fun _ _ _ h => h
        case hl184 => (simp only [List.setIfInBounds_toArray, List.set_cons_succ, List.set_cons_zero]; try rfl)
        case hw184 => rfl
        case hv184 =>
          intro W hW
          skip
          go_simp
          try with_reducible rfl
        case ha184 => (simp only [Act.put, List.setIfInBounds_toArray, List.set_cons_succ, List.set_cons_zero]; try rfl)
        refine wpAnyH_ready (rs := [24]) (by kernel_rfl) (by simp) ?_
        refine rh_cons (i := 24) (o := ?o185) (listed' := ?l185) ?hi185 ?hl185 ?hg185 ?hh185 ?hs185
        case hi185 => (simp only [List.getElem?_toArray, List.getElem?_cons_succ, List.getElem?_cons_zero]; try rfl)
        case hl185 => (simp only [List.setIfInBounds_toArray, List.set_cons_succ, List.set_cons_zero]; try rfl)
        case hg185 => rfl
        case hs185 => exact AllReadyH.nil
        intro K hK
        go_simp
        refine (cChanged_nil _).mono ?_
        rintro z wa ⟨rfl, rfl⟩
        refine hK.out _ _ HS4.out ?_
        clear hK K
        refine rh_takeS (i := 25) (o := ?o186) (v := ?v186) (listed' := ?l186) (a' := ?a186) ?hi186 (by kernel_rfl) (by kernel_rfl) (by kernel_rfl) ?hq186 ?hl186 ?hw186 ?hv186 ?ha186 HS4.out ?hh186
        case hi186 => (simp only [List.getElem?_toArray, List.getElem?_cons_succ, List.getElem?_cons_zero]; try rfl)
        case hq186 => exact fun _ _ _ h => h
        case hl186 => (simp only [List.setIfInBounds_toArray, List.set_cons_succ, List.set_cons_zero]; try rfl)
        case hw186 => rfl
        case hv186 =>
          intro W hW
          skip
          go_simp
          try with_reducible rfl
        case ha186 => (simp only [Act.put, List.setIfInBounds_toArray, List.set_cons_succ, List.set_cons_zero]; try rfl)
        refine rh_takeS (i := 26) (o := ?o187) (v := ?v187) (listed' := ?l187) (a' := ?a187) ?hi187 (by kernel_rfl) (by kernel_rfl) (by kernel_rfl) ?hq187 ?hl187 ?hw187 ?hv187 ?ha187 HS4.out ?hh187
        case hi187 => (simp only [List.getElem?_toArray, List.getElem?_cons_succ, List.getElem?_cons_zero]; try rfl)
        case hq187 => exact fun _ _ _ h => h
        case hl187 => (simp only [List.setIfInBounds_toArray, List.set_cons_succ, List.set_cons_zero]; try rfl)
        case hw187 => rfl
        case hv187 =>
          intro W hW
          skip
          go_simp
          try with_reducible rfl
        case ha187 => (simp only [Act.put, List.setIfInBounds_toArray, List.set_cons_succ, List.set_cons_zero]; try rfl)
        refine rh_takeS (i := 27) (o := ?o188) (v := ?v188) (listed' := ?l188) (a' := ?a188) ?hi188 (by kernel_rfl) (by kernel_rfl) (by kernel_rfl) ?hq188 ?hl188 ?hw188 ?hv188 ?ha188 HS4.out ?hh188
        case hi188 => (simp only [List.getElem?_toArray, List.getElem?_cons_succ, List.getElem?_cons_zero]; try rfl)
        case hq188 => exact fun _ _ _ h => h
        case hl188 => (simp only [List.setIfInBounds_toArray, List.set_cons_succ, List.set_cons_zero]; try rfl)
        case hw188 => rfl
        case hv188 =>
          intro W hW
          skip
          go_simp
          try with_reducible rfl
        case ha188 => (simp only [Act.put, List.setIfInBounds_toArray, List.set_cons_succ, List.set_cons_zero]; try rfl)
        refine rh_takeS (i := 28) (o := ?o189) (v := ?v189) (listed' := ?l189) (a' := ?a189) ?hi189 (by kernel_rfl) (by kernel_rfl) (by kernel_rfl) ?hq189 ?hl189 ?hw189 ?hv189 ?ha189 HS4.out ?hh189
        case hi189 => (simp only [List.getElem?_toArray, List.getElem?_cons_succ, List.getElem?_cons_zero]; try rfl)
        case hq189 => exact fun _ _ _ h => h
        case hl189 => (simp only [List.setIfInBounds_toArray, List.set_cons_succ, List.set_cons_zero]; try rfl)
        case hw189 => rfl
        case hv189 =>
          intro W hW
          skip
          go_simp
          try with_reducible rfl
        case ha189 => (simp only [Act.put, List.setIfInBounds_toArray, List.set_cons_succ, List.set_cons_zero]; try rfl)
        refine wpAnyH_done (by kernel_rfl) ?_ _
        have HB6 := hid (HB5.out.trans (HS4.out.mono HB5.out.size))
        have HO6 := hid (heapB HO5.out HS4.out (Array.getElem?_eq_some_iff.1 HO5.out).1)
        clear HS0 HS1 HS2 HS3 HS4 HFT HO5 HB5
        go_wp2_with fail
        go_at_call 6
        refine (HIA.out _).mono ?_
        rintro e w7 ⟨rfl, hB⟩
        have HB7 := hid (HB6.out.trans (hB.mono HB6.out.size))
        have HO7 := hid (heapB HO6.out hB (Array.getElem?_eq_some_iff.1 HO6.out).1)
        clear hB HO6 HB6
        go_wp2_with fail
        go_at_call 24
        refine (cLearn_nil _).mono ?_
        rintro e we ⟨rfl, rfl⟩
        have d0 : w7.cell? ⟨wt.heap.size, 0, none⟩ = some (.int .i64 16) := (cellAt' HO7.out 0).trans rfl
        have d1 : w7.cell? ⟨wt.heap.size, 1, none⟩ = some (.int .i64 1) := (cellAt' HO7.out 1).trans rfl
        have d2 : w7.cell? ⟨wt.heap.size, 2, none⟩ = some (.int .i64 0) := (cellAt' HO7.out 2).trans rfl
        have d3 : w7.cell? ⟨wt.heap.size, 3, none⟩ = some (.int .i64 16) := (cellAt' HO7.out 3).trans rfl
        have d4 : w7.cell? ⟨wt.heap.size, 4, none⟩ = some (.int .i64 0) := (cellAt' HO7.out 4).trans rfl
        have d5 : w7.cell? ⟨wt.heap.size, 5, none⟩ = some (.int .i64 0) := (cellAt' HO7.out 5).trans rfl
        have d6 : w7.cell? ⟨wt.heap.size, 6, none⟩ = some (.int .i64 0) := (cellAt' HO7.out 6).trans rfl
        go_wp2_with (first
          | ((with_reducible refine wpList_buildG (x := ?bx189) ?bg189 ?bo189 ?b1189 ?bh189); (case bg189 => rfl); (case bo189 => rfl); (case b1189 => rfl))
          | fail)
        go_at_call 25
        refine (cPut_nil (newE cP16) _).mono ?_
        rintro e w8 ⟨rfl, hB⟩
        have HB8 := hid (HB7.out.trans (hB.mono HB7.out.size))
        clear hB HO7 HB7 d0 d1 d2 d3 d4 d5 d6
        go_wp2_with fail
        go_at_call 15
        refine (cNode_nil _).mono ?_
        rintro e we ⟨rfl, rfl⟩
        go_wp2_with fail
        go_at_call 14
        refine (cClock_nil _).mono ?_
        rintro e we ⟨rfl, rfl⟩
        go_wp2_with fail
        go_ret
        exact ⟨rfl, HB8.out⟩
      · go_wp2_with fail
        go_at_call 16
        refine (cSee_nil 16 wr).mono ?_
        rintro e we ⟨rfl, rfl⟩
        go_wp2_with fail
        go_at_call 17
        refine (cTick_nil _).mono ?_
        rintro e we ⟨rfl, rfl⟩
        go_wp2_with fail
        go_at_call 18
        refine (cGet_nil _ _).mono ?_
        rintro e wg ⟨rfl, hB⟩
        have HBg := hid (HB3.out.trans (hB.mono HB3.out.size))
        clear hB
        go_wp2_with (first
          | ((with_reducible refine storeC (x := ?sx189) (y := ?sy189) (b := wg.heap.size) (T := 44) zE ?sg189 ?so189 ?sxx189 ?syy189 ?sc189 ?sh189); (case sg189 => rfl); (case so189 => rfl); (case sxx189 => rfl); (case syy189 => rfl); (case sc189 => exact Ob.room (e := zE) (laid1_0 wg zeroEc)); intro wt hO hU; have HBt := hid (HBg.out.trans (((laid1_b wg zeroEc).trans (hU.below wg.heap.size (Nat.le_refl _))).mono HBg.out.size)); clear hO hU)
          | fail)
        have HO5 := hid (heap_alloc_new wt (.cells #[.int .i64 16, .int .i64 1, .int .i64 0, .int .i64 16, .int .i64 0, .int .i64 0, .int .i64 0] 40))
        have HB5 := hid (HBt.out.trans ((laid1_b wt (.cells #[.int .i64 16, .int .i64 1, .int .i64 0, .int .i64 16, .int .i64 0, .int .i64 0, .int .i64 0] 40)).mono HBt.out.size))
        generalize wt.alloc (.cells #[.int .i64 16, .int .i64 1, .int .i64 0, .int .i64 16, .int .i64 0, .int .i64 0, .int .i64 0] 40) = W5 at HO5 HB5 ⊢
        have HFT : Hid (∀ W, Below W5.heap.size W5 W → W.cell? ⟨wt.heap.size, 0, none⟩ = some (.int .i64 16) ∧ W.cell? ⟨wt.heap.size, 1, none⟩ = some (.int .i64 1) ∧ W.cell? ⟨wt.heap.size, 2, none⟩ = some (.int .i64 0) ∧ W.cell? ⟨wt.heap.size, 3, none⟩ = some (.int .i64 16) ∧ W.cell? ⟨wt.heap.size, 4, none⟩ = some (.int .i64 0) ∧ W.cell? ⟨wt.heap.size, 5, none⟩ = some (.int .i64 0) ∧ W.cell? ⟨wt.heap.size, 6, none⟩ = some (.int .i64 0)) := hid fun W hW => by
          have h0 := heapB HO5.out hW (Array.getElem?_eq_some_iff.1 HO5.out).1
          exact ⟨(cellAt' h0 0).trans rfl, (cellAt' h0 1).trans rfl, (cellAt' h0 2).trans rfl, (cellAt' h0 3).trans rfl, (cellAt' h0 4).trans rfl, (cellAt' h0 5).trans rfl, (cellAt' h0 6).trans rfl⟩
        refine rh_start (S := fun W => Below W5.heap.size W5 W) (n := 29) (listed := #[false, false, false, false, false, false, false, false, false, false, false, false, false, false, false, false, false, false, false, false, false, false, false, false, false, false, false, false, false]) (by kernel_rfl) rfl rfl ?_
        have HS0 : Hid (Below W5.heap.size W5 W5.drew) := hid (belowDrew (Below.refl _ W5))
        generalize World.drew W5 = wd at HS0 ⊢
        refine rh_takeS (i := 0) (o := ?o190) (v := ?v190) (listed' := ?l190) (a' := ?a190) ?hi190 (by kernel_rfl) (by kernel_rfl) (by kernel_rfl) ?hq190 ?hl190 ?hw190 ?hv190 ?ha190 HS0.out ?hh190
        case hi190 => (simp only [List.getElem?_toArray, List.getElem?_cons_zero]; try rfl)
        case hq190 => exact fun _ _ _ h => h
        case hl190 => (simp only [List.setIfInBounds_toArray, List.set_cons_zero]; try rfl)
        case hw190 => rfl
        case hv190 =>
          intro W hW
          obtain ⟨d0, d1, d2, d3, d4, d5, d6⟩ := HFT.out W hW
          go_simp
          try with_reducible rfl
        case ha190 => (simp only [Act.put, List.setIfInBounds_toArray, List.set_cons_succ, List.set_cons_zero]; try rfl)
        refine rh_takeS (i := 3) (o := ?o191) (v := ?v191) (listed' := ?l191) (a' := ?a191) ?hi191 (by kernel_rfl) (by kernel_rfl) (by kernel_rfl) ?hq191 ?hl191 ?hw191 ?hv191 ?ha191 HS0.out ?hh191
        case hi191 => (simp only [List.getElem?_toArray, List.getElem?_cons_succ, List.getElem?_cons_zero]; try rfl)
        case hq191 => exact fun _ _ _ h => h
        case hl191 => (simp only [List.setIfInBounds_toArray, List.set_cons_succ, List.set_cons_zero]; try rfl)
        case hw191 => rfl
        case hv191 =>
          intro W hW
          obtain ⟨d0, d1, d2, d3, d4, d5, d6⟩ := HFT.out W hW
          go_simp
          try with_reducible rfl
        case ha191 => (simp only [Act.put, List.setIfInBounds_toArray, List.set_cons_succ, List.set_cons_zero]; try rfl)
        refine rh_takeS (i := 4) (o := ?o192) (v := ?v192) (listed' := ?l192) (a' := ?a192) ?hi192 (by kernel_rfl) (by kernel_rfl) (by kernel_rfl) ?hq192 ?hl192 ?hw192 ?hv192 ?ha192 HS0.out ?hh192
        case hi192 => (simp only [List.getElem?_toArray, List.getElem?_cons_succ, List.getElem?_cons_zero]; try rfl)
        case hq192 => exact fun _ _ _ h => h
        case hl192 => (simp only [List.setIfInBounds_toArray, List.set_cons_succ, List.set_cons_zero]; try rfl)
        case hw192 => rfl
        case hv192 =>
          intro W hW
          obtain ⟨d0, d1, d2, d3, d4, d5, d6⟩ := HFT.out W hW
          go_simp
          try with_reducible rfl
        case ha192 => (simp only [Act.put, List.setIfInBounds_toArray, List.set_cons_succ, List.set_cons_zero]; try rfl)
        refine rh_takeS (i := 8) (o := ?o193) (v := ?v193) (listed' := ?l193) (a' := ?a193) ?hi193 (by kernel_rfl) (by kernel_rfl) (by kernel_rfl) ?hq193 ?hl193 ?hw193 ?hv193 ?ha193 HS0.out ?hh193
        case hi193 => (simp only [List.getElem?_toArray, List.getElem?_cons_succ, List.getElem?_cons_zero]; try rfl)
        case hq193 => exact fun _ _ _ h => h
        case hl193 => (simp only [List.setIfInBounds_toArray, List.set_cons_succ, List.set_cons_zero]; try rfl)
        case hw193 => rfl
        case hv193 =>
          intro W hW
          obtain ⟨d0, d1, d2, d3, d4, d5, d6⟩ := HFT.out W hW
          go_simp
          try with_reducible rfl
        case ha193 => (simp only [Act.put, List.setIfInBounds_toArray, List.set_cons_succ, List.set_cons_zero]; try rfl)
        refine rh_takeS (i := 9) (o := ?o194) (v := ?v194) (listed' := ?l194) (a' := ?a194) ?hi194 (by kernel_rfl) (by kernel_rfl) (by kernel_rfl) ?hq194 ?hl194 ?hw194 ?hv194 ?ha194 HS0.out ?hh194
        case hi194 => (simp only [List.getElem?_toArray, List.getElem?_cons_succ, List.getElem?_cons_zero]; try rfl)
        case hq194 => exact fun _ _ _ h => h
        case hl194 => (simp only [List.setIfInBounds_toArray, List.set_cons_succ, List.set_cons_zero]; try rfl)
        case hw194 => rfl
        case hv194 =>
          intro W hW
          obtain ⟨d0, d1, d2, d3, d4, d5, d6⟩ := HFT.out W hW
          go_simp
          try with_reducible rfl
        case ha194 => (simp only [Act.put, List.setIfInBounds_toArray, List.set_cons_succ, List.set_cons_zero]; try rfl)
        refine rh_takeS (i := 13) (o := ?o195) (v := ?v195) (listed' := ?l195) (a' := ?a195) ?hi195 (by kernel_rfl) (by kernel_rfl) (by kernel_rfl) ?hq195 ?hl195 ?hw195 ?hv195 ?ha195 HS0.out ?hh195
        case hi195 => (simp only [List.getElem?_toArray, List.getElem?_cons_succ, List.getElem?_cons_zero]; try rfl)
        case hq195 => exact fun _ _ _ h => h
        case hl195 => (simp only [List.setIfInBounds_toArray, List.set_cons_succ, List.set_cons_zero]; try rfl)
        case hw195 => rfl
        case hv195 =>
          intro W hW
          obtain ⟨d0, d1, d2, d3, d4, d5, d6⟩ := HFT.out W hW
          go_simp
          try with_reducible rfl
        case ha195 => (simp only [Act.put, List.setIfInBounds_toArray, List.set_cons_succ, List.set_cons_zero]; try rfl)
        refine rh_takeS (i := 14) (o := ?o196) (v := ?v196) (listed' := ?l196) (a' := ?a196) ?hi196 (by kernel_rfl) (by kernel_rfl) (by kernel_rfl) ?hq196 ?hl196 ?hw196 ?hv196 ?ha196 HS0.out ?hh196
        case hi196 => (simp only [List.getElem?_toArray, List.getElem?_cons_succ, List.getElem?_cons_zero]; try rfl)
        case hq196 => exact fun _ _ _ h => h
        case hl196 => (simp only [List.setIfInBounds_toArray, List.set_cons_succ, List.set_cons_zero]; try rfl)
        case hw196 => rfl
        case hv196 =>
          intro W hW
          obtain ⟨d0, d1, d2, d3, d4, d5, d6⟩ := HFT.out W hW
          go_simp
          try with_reducible rfl
        case ha196 => (simp only [Act.put, List.setIfInBounds_toArray, List.set_cons_succ, List.set_cons_zero]; try rfl)
        refine rh_takeS (i := 18) (o := ?o197) (v := ?v197) (listed' := ?l197) (a' := ?a197) ?hi197 (by kernel_rfl) (by kernel_rfl) (by kernel_rfl) ?hq197 ?hl197 ?hw197 ?hv197 ?ha197 HS0.out ?hh197
        case hi197 => (simp only [List.getElem?_toArray, List.getElem?_cons_succ, List.getElem?_cons_zero]; try rfl)
        case hq197 => exact fun _ _ _ h => h
        case hl197 => (simp only [List.setIfInBounds_toArray, List.set_cons_succ, List.set_cons_zero]; try rfl)
        case hw197 => rfl
        case hv197 =>
          intro W hW
          obtain ⟨d0, d1, d2, d3, d4, d5, d6⟩ := HFT.out W hW
          go_simp
          try with_reducible rfl
        case ha197 => (simp only [Act.put, List.setIfInBounds_toArray, List.set_cons_succ, List.set_cons_zero]; try rfl)
        refine rh_takeS (i := 19) (o := ?o198) (v := ?v198) (listed' := ?l198) (a' := ?a198) ?hi198 (by kernel_rfl) (by kernel_rfl) (by kernel_rfl) ?hq198 ?hl198 ?hw198 ?hv198 ?ha198 HS0.out ?hh198
        case hi198 => (simp only [List.getElem?_toArray, List.getElem?_cons_succ, List.getElem?_cons_zero]; try rfl)
        case hq198 => exact fun _ _ _ h => h
        case hl198 => (simp only [List.setIfInBounds_toArray, List.set_cons_succ, List.set_cons_zero]; try rfl)
        case hw198 => rfl
        case hv198 =>
          intro W hW
          obtain ⟨d0, d1, d2, d3, d4, d5, d6⟩ := HFT.out W hW
          go_simp
          try with_reducible rfl
        case ha198 => (simp only [Act.put, List.setIfInBounds_toArray, List.set_cons_succ, List.set_cons_zero]; try rfl)
        refine rh_takeS (i := 23) (o := ?o199) (v := ?v199) (listed' := ?l199) (a' := ?a199) ?hi199 (by kernel_rfl) (by kernel_rfl) (by kernel_rfl) ?hq199 ?hl199 ?hw199 ?hv199 ?ha199 HS0.out ?hh199
        case hi199 => (simp only [List.getElem?_toArray, List.getElem?_cons_succ, List.getElem?_cons_zero]; try rfl)
        case hq199 => exact fun _ _ _ h => h
        case hl199 => (simp only [List.setIfInBounds_toArray, List.set_cons_succ, List.set_cons_zero]; try rfl)
        case hw199 => rfl
        case hv199 =>
          intro W hW
          obtain ⟨d0, d1, d2, d3, d4, d5, d6⟩ := HFT.out W hW
          go_simp
          try with_reducible rfl
        case ha199 => (simp only [Act.put, List.setIfInBounds_toArray, List.set_cons_succ, List.set_cons_zero]; try rfl)
        refine wpAnyH_ready (rs := [1]) (by kernel_rfl) (by simp) ?_
        refine rh_cons (i := 1) (o := ?o200) (listed' := ?l200) ?hi200 ?hl200 ?hg200 ?hh200 ?hs200
        case hi200 => (simp only [List.getElem?_toArray, List.getElem?_cons_succ, List.getElem?_cons_zero]; try rfl)
        case hl200 => (simp only [List.setIfInBounds_toArray, List.set_cons_succ, List.set_cons_zero]; try rfl)
        case hg200 => rfl
        case hs200 => exact AllReadyH.nil
        intro K hK
        go_simp
        refine (cAll_nil _).mono ?_
        rintro z wa ⟨rfl, rfl⟩
        refine hK.out _ _ HS0.out ?_
        clear hK K
        refine rh_takeS (i := 2) (o := ?o201) (v := ?v201) (listed' := ?l201) (a' := ?a201) ?hi201 (by kernel_rfl) (by kernel_rfl) (by kernel_rfl) ?hq201 ?hl201 ?hw201 ?hv201 ?ha201 HS0.out ?hh201
        case hi201 => (simp only [List.getElem?_toArray, List.getElem?_cons_succ, List.getElem?_cons_zero]; try rfl)
        case hq201 => exact fun _ _ _ h => h
        case hl201 => (simp only [List.setIfInBounds_toArray, List.set_cons_succ, List.set_cons_zero]; try rfl)
        case hw201 => rfl
        case hv201 =>
          intro W hW
          skip
          go_simp
          try with_reducible rfl
        case ha201 => (simp only [Act.put, List.setIfInBounds_toArray, List.set_cons_succ, List.set_cons_zero]; try rfl)
        refine wpAnyH_ready (rs := [5]) (by kernel_rfl) (by simp) ?_
        refine rh_cons (i := 5) (o := ?o202) (listed' := ?l202) ?hi202 ?hl202 ?hg202 ?hh202 ?hs202
        case hi202 => (simp only [List.getElem?_toArray, List.getElem?_cons_succ, List.getElem?_cons_zero]; try rfl)
        case hl202 => (simp only [List.setIfInBounds_toArray, List.set_cons_succ, List.set_cons_zero]; try rfl)
        case hg202 => rfl
        case hs202 => exact AllReadyH.nil
        intro K hK
        go_simp
        refine (cPred_nil cP16 1 _).mono ?_
        rintro z wa ⟨rfl, hB⟩
        have HS1 := hid (HS0.out.trans (hB.mono HS0.out.size))
        clear hB
        refine hK.out _ _ HS1.out ?_
        clear hK K
        refine rh_takeS (i := 6) (o := ?o203) (v := ?v203) (listed' := ?l203) (a' := ?a203) ?hi203 (by kernel_rfl) (by kernel_rfl) (by kernel_rfl) ?hq203 ?hl203 ?hw203 ?hv203 ?ha203 HS1.out ?hh203
        case hi203 => (simp only [List.getElem?_toArray, List.getElem?_cons_succ, List.getElem?_cons_zero]; try rfl)
        case hq203 => exact fun _ _ _ h => h
        case hl203 => (simp only [List.setIfInBounds_toArray, List.set_cons_succ, List.set_cons_zero]; try rfl)
        case hw203 => rfl
        case hv203 =>
          intro W hW
          skip
          go_simp
          try with_reducible rfl
        case ha203 => (simp only [Act.put, List.setIfInBounds_toArray, List.set_cons_succ, List.set_cons_zero]; try rfl)
        refine rh_takeS (i := 7) (o := ?o204) (v := ?v204) (listed' := ?l204) (a' := ?a204) ?hi204 (by kernel_rfl) (by kernel_rfl) (by kernel_rfl) ?hq204 ?hl204 ?hw204 ?hv204 ?ha204 HS1.out ?hh204
        case hi204 => (simp only [List.getElem?_toArray, List.getElem?_cons_succ, List.getElem?_cons_zero]; try rfl)
        case hq204 => exact fun _ _ _ h => h
        case hl204 => (simp only [List.setIfInBounds_toArray, List.set_cons_succ, List.set_cons_zero]; try rfl)
        case hw204 => rfl
        case hv204 =>
          intro W hW
          skip
          go_simp
          try with_reducible rfl
        case ha204 => (simp only [Act.put, List.setIfInBounds_toArray, List.set_cons_succ, List.set_cons_zero]; try rfl)
        refine wpAnyH_ready (rs := [10]) (by kernel_rfl) (by simp) ?_
        refine rh_cons (i := 10) (o := ?o205) (listed' := ?l205) ?hi205 ?hl205 ?hg205 ?hh205 ?hs205
        case hi205 => (simp only [List.getElem?_toArray, List.getElem?_cons_succ, List.getElem?_cons_zero]; try rfl)
        case hl205 => (simp only [List.setIfInBounds_toArray, List.set_cons_succ, List.set_cons_zero]; try rfl)
        case hg205 => rfl
        case hs205 => exact AllReadyH.nil
        intro K hK
        go_simp
        refine (cHolders_nil cP16 1 _).mono ?_
        rintro z wa2 ⟨v, rfl, hv, hB⟩
        have HS2 := hid (HS1.out.trans (hB.mono HS1.out.size))
        obtain ⟨vg, vc, vn, rfl, hvn⟩ := OwnI.asSlice' hv
        obtain rfl : vn = 0 := hvn
        clear hB hv
        refine hK.out _ _ HS2.out ?_
        clear hK K
        refine rh_takeS (i := 11) (o := ?o206) (v := ?v206) (listed' := ?l206) (a' := ?a206) ?hi206 (by kernel_rfl) (by kernel_rfl) (by kernel_rfl) ?hq206 ?hl206 ?hw206 ?hv206 ?ha206 HS2.out ?hh206
        case hi206 => (simp only [List.getElem?_toArray, List.getElem?_cons_succ, List.getElem?_cons_zero]; try rfl)
        case hq206 => exact fun _ _ _ h => h
        case hl206 => (simp only [List.setIfInBounds_toArray, List.set_cons_succ, List.set_cons_zero]; try rfl)
        case hw206 => rfl
        case hv206 =>
          intro W hW
          skip
          go_simp
          try with_reducible rfl
        case ha206 => (simp only [Act.put, List.setIfInBounds_toArray, List.set_cons_succ, List.set_cons_zero]; try rfl)
        refine rh_takeS (i := 12) (o := ?o207) (v := ?v207) (listed' := ?l207) (a' := ?a207) ?hi207 (by kernel_rfl) (by kernel_rfl) (by kernel_rfl) ?hq207 ?hl207 ?hw207 ?hv207 ?ha207 HS2.out ?hh207
        case hi207 => (simp only [List.getElem?_toArray, List.getElem?_cons_succ, List.getElem?_cons_zero]; try rfl)
        case hq207 => exact fun _ _ _ h => h
        case hl207 => (simp only [List.setIfInBounds_toArray, List.set_cons_succ, List.set_cons_zero]; try rfl)
        case hw207 => rfl
        case hv207 =>
          intro W hW
          skip
          go_simp
          try with_reducible rfl
        case ha207 => (simp only [Act.put, List.setIfInBounds_toArray, List.set_cons_succ, List.set_cons_zero]; try rfl)
        refine wpAnyH_ready (rs := [15]) (by kernel_rfl) (by simp) ?_
        refine rh_cons (i := 15) (o := ?o208) (listed' := ?l208) ?hi208 ?hl208 ?hg208 ?hh208 ?hs208
        case hi208 => (simp only [List.getElem?_toArray, List.getElem?_cons_succ, List.getElem?_cons_zero]; try rfl)
        case hl208 => (simp only [List.setIfInBounds_toArray, List.set_cons_succ, List.set_cons_zero]; try rfl)
        case hg208 => rfl
        case hs208 => exact AllReadyH.nil
        intro K hK
        go_simp
        refine (cKillers_nil cP16 1 _).mono ?_
        rintro z wa3 ⟨v, rfl, hv, hB⟩
        have HS3 := hid (HS2.out.trans (hB.mono HS2.out.size))
        obtain ⟨vg, vc, vn, rfl, hvn⟩ := OwnI.asSlice' hv
        obtain rfl : vn = 0 := hvn
        clear hB hv
        refine hK.out _ _ HS3.out ?_
        clear hK K
        refine rh_takeS (i := 16) (o := ?o209) (v := ?v209) (listed' := ?l209) (a' := ?a209) ?hi209 (by kernel_rfl) (by kernel_rfl) (by kernel_rfl) ?hq209 ?hl209 ?hw209 ?hv209 ?ha209 HS3.out ?hh209
        case hi209 => (simp only [List.getElem?_toArray, List.getElem?_cons_succ, List.getElem?_cons_zero]; try rfl)
        case hq209 => exact fun _ _ _ h => h
        case hl209 => (simp only [List.setIfInBounds_toArray, List.set_cons_succ, List.set_cons_zero]; try rfl)
        case hw209 => rfl
        case hv209 =>
          intro W hW
          skip
          go_simp
          try with_reducible rfl
        case ha209 => (simp only [Act.put, List.setIfInBounds_toArray, List.set_cons_succ, List.set_cons_zero]; try rfl)
        refine rh_takeS (i := 17) (o := ?o210) (v := ?v210) (listed' := ?l210) (a' := ?a210) ?hi210 (by kernel_rfl) (by kernel_rfl) (by kernel_rfl) ?hq210 ?hl210 ?hw210 ?hv210 ?ha210 HS3.out ?hh210
        case hi210 => (simp only [List.getElem?_toArray, List.getElem?_cons_succ, List.getElem?_cons_zero]; try rfl)
        case hq210 => exact fun _ _ _ h => h
        case hl210 => (simp only [List.setIfInBounds_toArray, List.set_cons_succ, List.set_cons_zero]; try rfl)
        case hw210 => rfl
        case hv210 =>
          intro W hW
          skip
          go_simp
          try with_reducible rfl
        case ha210 => (simp only [Act.put, List.setIfInBounds_toArray, List.set_cons_succ, List.set_cons_zero]; try rfl)
        refine wpAnyH_ready (rs := [20]) (by kernel_rfl) (by simp) ?_
        refine rh_cons (i := 20) (o := ?o211) (listed' := ?l211) ?hi211 ?hl211 ?hg211 ?hh211 ?hs211
        case hi211 => (simp only [List.getElem?_toArray, List.getElem?_cons_succ, List.getElem?_cons_zero]; try rfl)
        case hl211 => (simp only [List.setIfInBounds_toArray, List.set_cons_succ, List.set_cons_zero]; try rfl)
        case hg211 => rfl
        case hs211 => exact AllReadyH.nil
        intro K hK
        go_simp
        refine (cAbsent_nil cP16 1 none 0 0 true _).mono ?_
        rintro z wa4 ⟨v, rfl, hv, hB⟩
        have HS4 := hid (HS3.out.trans (hB.mono HS3.out.size))
        obtain ⟨vg, vc, vn, rfl, hvn⟩ := OwnI.asSlice' hv
        obtain rfl : vn = 0 := hvn
        clear hB hv
        refine hK.out _ _ HS4.out ?_
        clear hK K
        refine rh_takeS (i := 21) (o := ?o212) (v := ?v212) (listed' := ?l212) (a' := ?a212) ?hi212 (by kernel_rfl) (by kernel_rfl) (by kernel_rfl) ?hq212 ?hl212 ?hw212 ?hv212 ?ha212 HS4.out ?hh212
        case hi212 => (simp only [List.getElem?_toArray, List.getElem?_cons_succ, List.getElem?_cons_zero]; try rfl)
        case hq212 => exact fun _ _ _ h => h
        case hl212 => (simp only [List.setIfInBounds_toArray, List.set_cons_succ, List.set_cons_zero]; try rfl)
        case hw212 => rfl
        case hv212 =>
          intro W hW
          skip
          go_simp
          try with_reducible rfl
        case ha212 => (simp only [Act.put, List.setIfInBounds_toArray, List.set_cons_succ, List.set_cons_zero]; try rfl)
        refine rh_takeS (i := 22) (o := ?o213) (v := ?v213) (listed' := ?l213) (a' := ?a213) ?hi213 (by kernel_rfl) (by kernel_rfl) (by kernel_rfl) ?hq213 ?hl213 ?hw213 ?hv213 ?ha213 HS4.out ?hh213
        case hi213 => (simp only [List.getElem?_toArray, List.getElem?_cons_succ, List.getElem?_cons_zero]; try rfl)
        case hq213 => exact fun _ _ _ h => h
        case hl213 => (simp only [List.setIfInBounds_toArray, List.set_cons_succ, List.set_cons_zero]; try rfl)
        case hw213 => rfl
        case hv213 =>
          intro W hW
          skip
          go_simp
          try with_reducible rfl
        case ha213 => (simp only [Act.put, List.setIfInBounds_toArray, List.set_cons_succ, List.set_cons_zero]; try rfl)
        refine wpAnyH_ready (rs := [24]) (by kernel_rfl) (by simp) ?_
        refine rh_cons (i := 24) (o := ?o214) (listed' := ?l214) ?hi214 ?hl214 ?hg214 ?hh214 ?hs214
        case hi214 => (simp only [List.getElem?_toArray, List.getElem?_cons_succ, List.getElem?_cons_zero]; try rfl)
        case hl214 => (simp only [List.setIfInBounds_toArray, List.set_cons_succ, List.set_cons_zero]; try rfl)
        case hg214 => rfl
        case hs214 => exact AllReadyH.nil
        intro K hK
        go_simp
        refine (cChanged_nil _).mono ?_
        rintro z wa ⟨rfl, rfl⟩
        refine hK.out _ _ HS4.out ?_
        clear hK K
        refine rh_takeS (i := 25) (o := ?o215) (v := ?v215) (listed' := ?l215) (a' := ?a215) ?hi215 (by kernel_rfl) (by kernel_rfl) (by kernel_rfl) ?hq215 ?hl215 ?hw215 ?hv215 ?ha215 HS4.out ?hh215
        case hi215 => (simp only [List.getElem?_toArray, List.getElem?_cons_succ, List.getElem?_cons_zero]; try rfl)
        case hq215 => exact fun _ _ _ h => h
        case hl215 => (simp only [List.setIfInBounds_toArray, List.set_cons_succ, List.set_cons_zero]; try rfl)
        case hw215 => rfl
        case hv215 =>
          intro W hW
          skip
          go_simp
          try with_reducible rfl
        case ha215 => (simp only [Act.put, List.setIfInBounds_toArray, List.set_cons_succ, List.set_cons_zero]; try rfl)
        refine rh_takeS (i := 26) (o := ?o216) (v := ?v216) (listed' := ?l216) (a' := ?a216) ?hi216 (by kernel_rfl) (by kernel_rfl) (by kernel_rfl) ?hq216 ?hl216 ?hw216 ?hv216 ?ha216 HS4.out ?hh216
        case hi216 => (simp only [List.getElem?_toArray, List.getElem?_cons_succ, List.getElem?_cons_zero]; try rfl)
        case hq216 => exact fun _ _ _ h => h
        case hl216 => (simp only [List.setIfInBounds_toArray, List.set_cons_succ, List.set_cons_zero]; try rfl)
        case hw216 => rfl
        case hv216 =>
          intro W hW
          skip
          go_simp
          try with_reducible rfl
        case ha216 => (simp only [Act.put, List.setIfInBounds_toArray, List.set_cons_succ, List.set_cons_zero]; try rfl)
        refine rh_takeS (i := 27) (o := ?o217) (v := ?v217) (listed' := ?l217) (a' := ?a217) ?hi217 (by kernel_rfl) (by kernel_rfl) (by kernel_rfl) ?hq217 ?hl217 ?hw217 ?hv217 ?ha217 HS4.out ?hh217
        case hi217 => (simp only [List.getElem?_toArray, List.getElem?_cons_succ, List.getElem?_cons_zero]; try rfl)
        case hq217 => exact fun _ _ _ h => h
        case hl217 => (simp only [List.setIfInBounds_toArray, List.set_cons_succ, List.set_cons_zero]; try rfl)
        case hw217 => rfl
        case hv217 =>
          intro W hW
          skip
          go_simp
          try with_reducible rfl
        case ha217 => (simp only [Act.put, List.setIfInBounds_toArray, List.set_cons_succ, List.set_cons_zero]; try rfl)
        refine rh_takeS (i := 28) (o := ?o218) (v := ?v218) (listed' := ?l218) (a' := ?a218) ?hi218 (by kernel_rfl) (by kernel_rfl) (by kernel_rfl) ?hq218 ?hl218 ?hw218 ?hv218 ?ha218 HS4.out ?hh218
        case hi218 => (simp only [List.getElem?_toArray, List.getElem?_cons_succ, List.getElem?_cons_zero]; try rfl)
        case hq218 => exact fun _ _ _ h => h
        case hl218 => (simp only [List.setIfInBounds_toArray, List.set_cons_succ, List.set_cons_zero]; try rfl)
        case hw218 => rfl
        case hv218 =>
          intro W hW
          skip
          go_simp
          try with_reducible rfl
        case ha218 => (simp only [Act.put, List.setIfInBounds_toArray, List.set_cons_succ, List.set_cons_zero]; try rfl)
        refine wpAnyH_done (by kernel_rfl) ?_ _
        have HB6 := hid (HB5.out.trans (HS4.out.mono HB5.out.size))
        have HO6 := hid (heapB HO5.out HS4.out (Array.getElem?_eq_some_iff.1 HO5.out).1)
        clear HS0 HS1 HS2 HS3 HS4 HFT HO5 HB5
        go_wp2_with fail
        go_at_call 6
        refine (HIA.out _).mono ?_
        rintro e w7 ⟨rfl, hB⟩
        have HB7 := hid (HB6.out.trans (hB.mono HB6.out.size))
        have HO7 := hid (heapB HO6.out hB (Array.getElem?_eq_some_iff.1 HO6.out).1)
        clear hB HO6 HB6
        go_wp2_with fail
        go_at_call 24
        refine (cLearn_nil _).mono ?_
        rintro e we ⟨rfl, rfl⟩
        have d0 : w7.cell? ⟨wt.heap.size, 0, none⟩ = some (.int .i64 16) := (cellAt' HO7.out 0).trans rfl
        have d1 : w7.cell? ⟨wt.heap.size, 1, none⟩ = some (.int .i64 1) := (cellAt' HO7.out 1).trans rfl
        have d2 : w7.cell? ⟨wt.heap.size, 2, none⟩ = some (.int .i64 0) := (cellAt' HO7.out 2).trans rfl
        have d3 : w7.cell? ⟨wt.heap.size, 3, none⟩ = some (.int .i64 16) := (cellAt' HO7.out 3).trans rfl
        have d4 : w7.cell? ⟨wt.heap.size, 4, none⟩ = some (.int .i64 0) := (cellAt' HO7.out 4).trans rfl
        have d5 : w7.cell? ⟨wt.heap.size, 5, none⟩ = some (.int .i64 0) := (cellAt' HO7.out 5).trans rfl
        have d6 : w7.cell? ⟨wt.heap.size, 6, none⟩ = some (.int .i64 0) := (cellAt' HO7.out 6).trans rfl
        go_wp2_with (first
          | ((with_reducible refine wpList_buildG (x := ?bx218) ?bg218 ?bo218 ?b1218 ?bh218); (case bg218 => rfl); (case bo218 => rfl); (case b1218 => rfl))
          | fail)
        go_at_call 25
        refine (cPut_nil (newE cP16) _).mono ?_
        rintro e w8 ⟨rfl, hB⟩
        have HB8 := hid (HB7.out.trans (hB.mono HB7.out.size))
        clear hB HO7 HB7 d0 d1 d2 d3 d4 d5 d6
        go_wp2_with fail
        go_at_call 15
        refine (cNode_nil _).mono ?_
        rintro e we ⟨rfl, rfl⟩
        go_wp2_with fail
        go_at_call 14
        refine (cClock_nil _).mono ?_
        rintro e we ⟨rfl, rfl⟩
        go_wp2_with fail
        go_ret
        exact ⟨rfl, HB8.out⟩
end Go.Proofs.YtogoibigabpkhaaGreat
