import Derived.Test.YtlehcaacfgocaaaGreatVAgreeZm
namespace Go.Proofs.YtlehcaacfgocaaaGreat
set_option linter.unusedVariables false
open Go.RowKit
open Go.Lib (hid)
open Go.Deep (blk_setCell_other nblk_setCell)
theorem idsLen (l : List C7) : (idsL l).length = l.length := by unfold idsL; rw [List.length_map]
section
variable {w : World} {B : Bd} {q x b b2 N : Nat} {nd : Int} {s : Sd} {wv : Value} {ws : List Ms}
theorem cKillersV (h : Vo w B q x b b2 N nd s wv ws) (hN : N ≤ 20000) (c : C7) (t : Int) : Calls Tryz.prog 143 #[ptr x, c.v, .int .i64 t] w fun e w' => ∃ g n k, e = .returned (.slice g n k) ∧ n = (touchL s.xs c (killB t c.i)).length ∧ Below w.heap.size w w' := by
  obtain ⟨n, ids, hn, hv⟩ := h.ix
  refine (cKillers hv.ix (by omega) (by have := h.len; omega) h.all h.sh c t).mono ?_
  rintro e w' ⟨v, rfl, ho, hB⟩
  obtain ⟨g, k, n, rfl, hn⟩ := OwnI.asSlice ho
  exact ⟨g, n, k, rfl, by rw [hn, idsLen], hB⟩
theorem cHoldersV (h : Vo w B q x b b2 N nd s wv ws) (hN : N ≤ 20000) (c : C7) (t : Int) : Calls Tryz.prog 146 #[ptr x, c.v, .int .i64 t] w fun e w' => ∃ g n k, e = .returned (.slice g n k) ∧ n = (touchL s.xs c (fun y => holdsE y.e t)).length ∧ Below w.heap.size w w' := by
  obtain ⟨n, ids, hn, hv⟩ := h.ix
  refine (cHolders hv.ix (by omega) (by have := h.len; omega) h.all h.sh c t).mono ?_
  rintro e w' ⟨v, rfl, ho, hB⟩
  obtain ⟨g, k, n, rfl, hn⟩ := OwnI.asSlice ho
  exact ⟨g, n, k, rfl, by rw [hn, idsLen], hB⟩
theorem cAbsentV (h : Vo w B q x b b2 N nd s wv ws) (hN : N ≤ 20000) (c : C7) (t : Int) {p : Sv} {ps : List C7} (hp : Sl w p.v ps) (hps : ps.length ≤ 1024) (d : Bool) : Calls Tryz.prog 144 #[ptr x, c.v, .int .i64 t, p.v, .bool d] w fun e w' => ∃ g n k, e = .returned (.slice g n k) ∧ n = (touchL s.xs c (absB t ps d)).length ∧ Below w.heap.size w w' := by
  obtain ⟨n, ids, hn, hv⟩ := h.ix
  refine (cAbsent hv.ix (by omega) (by have := h.len; omega) h.all h.sh c t hp hps d).mono ?_
  rintro e w' ⟨v, rfl, ho, hB⟩
  obtain ⟨g, k, n, rfl, hn⟩ := OwnI.asSlice ho
  exact ⟨g, n, k, rfl, by rw [hn, idsLen], hB⟩
end
abbrev C7.arr7 (c : C7) : Array Value := #[.int .i64 c.i, .int .i64 c.k, .int .i64 c.s, .int .i64 c.t, .int .i64 c.d, .int .i64 c.p, .int .i64 c.q]
abbrev OC (w : World) (p : Nat) (c : C7) : Prop := w.heap[p]? = some (.cells c.arr7 45 (0, 0))
theorem setsOC {w : World} {q : Nat} {C : Array Value} (c : C7) (h : w.heap[q]? = some (.cells C 45 (0, 0))) (hs : C.size = 7) : OC (w.setCells q 0 c.arr7.toList) q c := by
  obtain ⟨C', h1, h2, _, h4⟩ := setsAll c.arr7.toList 0 C w h
  have : C' = c.arr7 := by
    apply Array.ext_getElem?
    intro j
    by_cases hj : j < 7
    · have := h4 j (by simp; omega) (by omega)
      rw [Nat.zero_add] at this
      rw [this]; simp
    · rw [Array.getElem?_eq_none (by omega), Array.getElem?_eq_none (by simp; omega)]
  subst this
  exact h1
theorem infoC7 (c : C7) : (Tryz.prog.info? 45).map (·.size) = some c.arr7.size := by show _ = some 7; kernel_rfl
theorem oneC7 (c : C7) : c.arr7.all (·.oneCell') = true := all_oneCell_toArray (cs := [.int .i64 c.i, .int .i64 c.k, .int .i64 c.s, .int .i64 c.t, .int .i64 c.d, .int .i64 c.p, .int .i64 c.q]) fun v hv => by simp only [List.mem_cons, List.not_mem_nil, or_false] at hv; rcases hv with h | h | h | h | h | h | h <;> subst h <;> rfl
theorem rh_storeC7 {md : Region.Mode} {S : World → Prop} {ops : Array Oper} {i : Nat} {o : Oper} {rs : List Nat} {fuel : Nat} {listed listed' : Array Bool} {a : Act} {w : World} {Q : Exit → Act → World → Prop} {x y : Operand} {b : Nat} (c : C7) (hi : ops[i]? = some o) (hl : listed.setIfInBounds i true = listed') (hg : o.guard = none) (ho : o.op = .store 45 x y)
    (hx : a.eval x = .pointer (some ⟨b, 0, none⟩)) (hy : a.eval y = .agg c.arr7) (hd : o.dst = none) {C : Array Value} (hC : w.heap[b]? = some (.cells C 45 (0, 0))) (hs7 : C.size = 7) (h : ∀ W, OC W b c → Upd b w W → S W ∧ wpAnyH Tryz.prog md ops Q S fuel listed' a W) (hs : AllReadyH Tryz.prog md ops Q S fuel listed a w rs) : AllReadyH Tryz.prog md ops Q S fuel listed a w (i :: rs) := by
  refine rh_cons hi hl hg (fun K hK => ?_) hs
  refine wp_store_mid 45 x y ho b 0 _ hx hy (thereAt hC (by rw [hs7]; show 0 + 7 ≤ 7; decide)) (infoC7 c) (oneC7 c) ?_
  rw [hd]
  obtain ⟨h1, h2⟩ := h _ (setsOC c hC hs7) (setsUpd' w b 0 _)
  exact hK.out _ _ h1 h2
abbrev zeroC7 : Obj := .cells #[.int .i64 0, .int .i64 0, .int .i64 0, .int .i64 0, .int .i64 0, .int .i64 0, .int .i64 0] 45
structure De (w : World) (W : World) (p : Nat) (m : Ms) (y : En) : Prop where
  be : Below w.heap.size w W
  om : OM W w.heap.size m.m
  ob : Ob W (w.heap.size + 1) 67 y.e
  oc : OC W p m.m.c
theorem De.on {w W W' : World} {p : Nat} {m : Ms} {y : En} (h : De w W p m y) (hB : Below W.heap.size W W') : De w W' p m y :=
  ⟨h.be.trans (hB.mono h.be.size), heapB h.om hB (Array.getElem?_eq_some_iff.1 h.om).1, heapB h.ob hB (Array.getElem?_eq_some_iff.1 h.ob).1, heapB h.oc hB (Array.getElem?_eq_some_iff.1 h.oc).1⟩
theorem OutD.mono {w w' : World} {B : Bd} {q x b b2 N N' : Nat} {nd : Int} {wv : Value} {ws : List Ms} {r : Sd × List An} {e : Ending} (h : OutD w B q x b b2 N nd wv ws r e w') (hN : N ≤ N') : OutD w B q x b b2 N' nd wv ws r e w' := by
  obtain ⟨v, ls, h1, h2, h3, h4, h5, h6, h7⟩ := h
  exact ⟨v, ls, h1, h2, h3, h4, h5, h6.mono hN, h7⟩
theorem wpList_buildOkT {ops : Array Oper} {rest : List Oper} {op : Oper} {a : Act} {w : World} {Q : Exit → Act → World → Prop} {x : Operand} (t : Int) (hgd : op.guard = none) (ho : op.op = .build 50 #[(0, .const (.int .i64 1)), (5, x), (6, .const (.bool true))]) (hx : a.eval x = .agg #[.int .i64 t, zS.v])
    (h : wpList Tryz.prog ops Q rest (a.put op.dst (.agg ({ zM with so := 1, vt := t, vp := zS, fl := true } : Mg).arr)) w) : wpList Tryz.prog ops Q (op :: rest) a w := by
  refine wpList_plain hgd fun _ hK' => ?_
  unfold Oper.wp execOp
  have hb := run_buildOk t zS true w
  have hc : a.eval (.const (.int .i64 1)) = .int .i64 1 := rfl
  have hc2 : a.eval (.const (.bool true)) = .bool true := rfl
  simp only [ho, List.map_toArray, List.map_cons, List.map_nil, hx, hc, hc2, Sem.run_bind]
  rw [hb]
  simp only [Result.andThen_ok]
  exact hK' _ _ h
set_option maxHeartbeats 32000000 in
set_option maxRecDepth 100000 in
theorem cDecide {w : World} {B : Bd} {q x b b2 N : Nat} {nd : Int} {s : Sd} {wv : Value} {ws : List Ms} (h : Vo w B q x b b2 N nd s wv ws) (hN : N ≤ 20000) {m : Ms} (hm : m.at w) (hms : m.short 1024) (hf : fullB m.m.vt m.v = true) {y : En} (hy : y.at w) (hml : m.low B) (hyl : y.low B) (ok : PutOk s y) :
    Calls Tryz.prog 115 #[ptr q, .agg m.m.arr, .agg y.e.arr] w (OutD w B q x b b2 (N + 1) nd wv ws (decideF nd s m y)) := by
  have HB := hid (laid2_b w (.cells m.m.arr 50) (.cells y.e.arr 67))
  have HM : Hid (OM ((w.alloc (.cells m.m.arr 50)).alloc (.cells y.e.arr 67)) w.heap.size m.m) := hid (laid2_0 w _ _)
  have HE : Hid (Ob ((w.alloc (.cells m.m.arr 50)).alloc (.cells y.e.arr 67)) (w.heap.size + 1) 67 y.e) := hid (laid2_1 w _ _)
  have HV := hid h
  have HN := hid hN
  have HMA := hid hm
  have HYA := hid hy
  have HMS := hid hms
  have HFU := hid hf
  have HOK := hid ok
  have HML := hid hml
  have HYL := hid hyl
  clear hml hyl
  clear h hN hm hy hms hf ok
  go_enter Tryz.func115, Tryz.ntmps115
  go_wp2_with fail
  generalize ((w.alloc (.cells m.m.arr 50)).alloc (.cells y.e.arr 67)) = W0 at HB HM HE ⊢
  have HF : Hid (∀ W, Below W0.heap.size W0 W → W.cell? ⟨w.heap.size, 11, none⟩ = some (.int .i64 m.m.vt) ∧ W.cell? ⟨w.heap.size, 4, none⟩ = some (.int .i64 m.m.c.i) ∧ W.cell? ⟨w.heap.size, 5, none⟩ = some (.int .i64 m.m.c.k) ∧ W.cell? ⟨w.heap.size, 6, none⟩ = some (.int .i64 m.m.c.s) ∧ W.cell? ⟨w.heap.size, 7, none⟩ = some (.int .i64 m.m.c.t) ∧ W.cell? ⟨w.heap.size, 8, none⟩ = some (.int .i64 m.m.c.d) ∧ W.cell? ⟨w.heap.size, 9, none⟩ = some (.int .i64 m.m.c.p) ∧ W.cell? ⟨w.heap.size, 10, none⟩ = some (.int .i64 m.m.c.q)) := hid fun W hW => by
    have hm : OM W w.heap.size m.m := heapB HM.out hW (Array.getElem?_eq_some_iff.1 HM.out).1
    exact ⟨hm.cell rfl, (hm).cell rfl, (hm).cell rfl, (hm).cell rfl, (hm).cell rfl, (hm).cell rfl, (hm).cell rfl, (hm).cell rfl⟩
  refine rh_start (S := fun W => Below W0.heap.size W0 W) (n := 8) (listed := #[false, false, false, false, false, false, false, false]) (by kernel_rfl) rfl rfl ?_
  have HS0 : Hid (Below W0.heap.size W0 W0.drew) := hid (belowDrew (Below.refl _ W0))
  generalize W0.drew = wd at HS0 ⊢
  refine rh_takeS (i := 0) (o := ?o1) (v := ?v1) (listed' := ?l1) (a' := ?a1) ?hi1 (by kernel_rfl) (by kernel_rfl) (by kernel_rfl) ?hq1 ?hl1 ?hw1 ?hv1 ?ha1 HS0.out ?hh1
  case hi1 => (simp only [List.getElem?_toArray, List.getElem?_cons_zero]; try rfl)
  case hq1 => exact fun _ _ _ h => h
  case hl1 => (simp only [List.setIfInBounds_toArray, List.set_cons_zero]; try rfl)
  case hw1 => rfl
  case hv1 =>
    intro W hW
    obtain ⟨k1, d0, d1, d2, d3, d4, d5, d6⟩ := HF.out W hW
    go_simp
    try with_reducible rfl
  case ha1 => (simp only [Act.put, List.setIfInBounds_toArray, List.set_cons_succ, List.set_cons_zero]; try rfl)
  refine rh_takeS (i := 1) (o := ?o2) (v := ?v2) (listed' := ?l2) (a' := ?a2) ?hi2 (by kernel_rfl) (by kernel_rfl) (by kernel_rfl) ?hq2 ?hl2 ?hw2 ?hv2 ?ha2 HS0.out ?hh2
  case hi2 => (simp only [List.getElem?_toArray, List.getElem?_cons_succ, List.getElem?_cons_zero]; try rfl)
  case hq2 => exact fun _ _ _ h => h
  case hl2 => (simp only [List.setIfInBounds_toArray, List.set_cons_succ, List.set_cons_zero]; try rfl)
  case hw2 => rfl
  case hv2 =>
    intro W hW
    obtain ⟨k1, d0, d1, d2, d3, d4, d5, d6⟩ := HF.out W hW
    go_simp
    try with_reducible rfl
  case ha2 => (simp only [Act.put, List.setIfInBounds_toArray, List.set_cons_succ, List.set_cons_zero]; try rfl)
  refine rh_takeS (i := 2) (o := ?o3) (v := ?v3) (listed' := ?l3) (a' := ?a3) ?hi3 (by kernel_rfl) (by kernel_rfl) (by kernel_rfl) ?hq3 ?hl3 ?hw3 ?hv3 ?ha3 HS0.out ?hh3
  case hi3 => (simp only [List.getElem?_toArray, List.getElem?_cons_succ, List.getElem?_cons_zero]; try rfl)
  case hq3 => exact fun _ _ _ h => h
  case hl3 => (simp only [List.setIfInBounds_toArray, List.set_cons_succ, List.set_cons_zero]; try rfl)
  case hw3 => rfl
  case hv3 =>
    intro W hW
    obtain ⟨k1, d0, d1, d2, d3, d4, d5, d6⟩ := HF.out W hW
    go_simp
    try with_reducible rfl
  case ha3 => (simp only [Act.put, List.setIfInBounds_toArray, List.set_cons_succ, List.set_cons_zero]; try rfl)
  refine rh_takeS (i := 3) (o := ?o4) (v := ?v4) (listed' := ?l4) (a' := ?a4) ?hi4 (by kernel_rfl) (by kernel_rfl) (by kernel_rfl) ?hq4 ?hl4 ?hw4 ?hv4 ?ha4 HS0.out ?hh4
  case hi4 => (simp only [List.getElem?_toArray, List.getElem?_cons_succ, List.getElem?_cons_zero]; try rfl)
  case hq4 => exact fun _ _ _ h => h
  case hl4 => (simp only [List.setIfInBounds_toArray, List.set_cons_succ, List.set_cons_zero]; try rfl)
  case hw4 => rfl
  case hv4 =>
    intro W hW
    obtain ⟨k1, d0, d1, d2, d3, d4, d5, d6⟩ := HF.out W hW
    go_simp
    try with_reducible rfl
  case ha4 => (simp only [Act.put, List.setIfInBounds_toArray, List.set_cons_succ, List.set_cons_zero]; try rfl)
  refine rh_takeS (i := 4) (o := ?o5) (v := ?v5) (listed' := ?l5) (a' := ?a5) ?hi5 (by kernel_rfl) (by kernel_rfl) (by kernel_rfl) ?hq5 ?hl5 ?hw5 ?hv5 ?ha5 HS0.out ?hh5
  case hi5 => (simp only [List.getElem?_toArray, List.getElem?_cons_succ, List.getElem?_cons_zero]; try rfl)
  case hq5 => exact fun _ _ _ h => h
  case hl5 => (simp only [List.setIfInBounds_toArray, List.set_cons_succ, List.set_cons_zero]; try rfl)
  case hw5 => rfl
  case hv5 =>
    intro W hW
    obtain ⟨k1, d0, d1, d2, d3, d4, d5, d6⟩ := HF.out W hW
    go_simp
    try with_reducible rfl
  case ha5 => (simp only [Act.put, List.setIfInBounds_toArray, List.set_cons_succ, List.set_cons_zero]; try rfl)
  refine wpAnyH_ready (rs := [5]) (by kernel_rfl) (by simp) ?_
  refine rh_cons (i := 5) (o := ?o7) (listed' := ?l7) ?hi7 ?hl7 ?hg7 ?hh7 ?hs7
  case hi7 => (simp only [List.getElem?_toArray, List.getElem?_cons_succ, List.getElem?_cons_zero]; try rfl)
  case hl7 => (simp only [List.setIfInBounds_toArray, List.set_cons_succ, List.set_cons_zero]; try rfl)
  case hg7 => rfl
  case hs7 => exact AllReadyH.nil
  intro K hK
  go_simp
  have HSa : Hid (Below W0.heap.size W0 (wd.alloc zeroC7)) := hid (HS0.out.trans ((laid1_b wd zeroC7).mono HS0.out.size))
  have HZ : Hid ((wd.alloc zeroC7).heap[wd.heap.size]? = some zeroC7) := hid (laid1_0 wd zeroC7)
  have HLL : Hid (W0.heap.size ≤ wd.heap.size) := hid HS0.out.size
  refine hK.out _ _ HSa.out ?_
  clear hK K
  generalize wd.alloc zeroC7 = wa at HSa HZ ⊢
  generalize wd.heap.size = p at HZ HLL ⊢
  clear HS0
  refine wpAnyH_ready (rs := [6]) (by kernel_rfl) (by simp) ?_
  refine rh_storeC7 (i := 6) (o := ?o6) (listed' := ?l6) (x := ?x6) (y := ?y6) (b := p) m.m.c ?hi6 ?hl6 ?hg6 ?ho6 ?hx6 ?hy6 ?hd6 HZ.out rfl ?hh6 ?hs6
  case hi6 => (simp only [List.getElem?_toArray, List.getElem?_cons_succ, List.getElem?_cons_zero]; try rfl)
  case hl6 => (simp only [List.setIfInBounds_toArray, List.set_cons_succ, List.set_cons_zero]; try rfl)
  case hg6 => rfl
  case ho6 => rfl
  case hx6 => rfl
  case hy6 => rfl
  case hd6 => rfl
  case hs6 => exact AllReadyH.nil
  intro wb hO hU
  have HSb := hid (HSa.out.trans (hU.below _ HLL.out))
  have HC := hid hO
  clear hO hU HSa HZ
  refine ⟨HSb.out, ?_⟩
  refine rh_takeS (i := 7) (o := ?o8) (v := ?v8) (listed' := ?l8) (a' := ?a8) ?hi8 (by kernel_rfl) (by kernel_rfl) (by kernel_rfl) ?hq8 ?hl8 ?hw8 ?hv8 ?ha8 HSb.out ?hh8
  case hi8 => (simp only [List.getElem?_toArray, List.getElem?_cons_succ, List.getElem?_cons_zero]; try rfl)
  case hq8 => exact fun _ _ _ h => h
  case hl8 => (simp only [List.setIfInBounds_toArray, List.set_cons_succ, List.set_cons_zero]; try rfl)
  case hw8 => rfl
  case hv8 =>
    intro W hW
    skip
    go_simp
    try with_reducible rfl
  case ha8 => (simp only [Act.put, List.setIfInBounds_toArray, List.set_cons_succ, List.set_cons_zero]; try rfl)
  refine wpAnyH_done (by kernel_rfl) ?_ _
  have HD : Hid (De w wb p m y) := hid ⟨HB.out.trans (HSb.out.mono HB.out.size), heapB HM.out HSb.out (Array.getElem?_eq_some_iff.1 HM.out).1, heapB HE.out HSb.out (Array.getElem?_eq_some_iff.1 HE.out).1, HC.out⟩
  clear HSb HF HM HE HB HC HLL
  obtain ⟨vb, hvb⟩ : ∃ z, z = votedB m y := ⟨_, rfl⟩
  have HVB := hid hvb
  clear hvb
  obtain ⟨kb, hkb⟩ : ∃ z, z = killsB s.xs m := ⟨_, rfl⟩
  have HKB := hid hkb
  clear hkb
  obtain ⟨hb, hhb⟩ : ∃ z, z = holdB s.xs m := ⟨_, rfl⟩
  have HHB := hid hhb
  clear hhb
  go_upto_region 2 with fail
  go_cut [9] from 15 to 28 (fun u wx => u = .bool vb ∧ Hid (De w wx p m y))
  case first =>
    have hvb := HVB.out
    unfold votedB at hvb
    have kf : wb.cell? ⟨w.heap.size + 1, 10, none⟩ = some (.int .i64 y.e.ft) := HD.out.ob.cell (j := 10) rfl
    have kg : wb.cell? ⟨w.heap.size + 1, 11, none⟩ = some (.slice y.e.fp.a y.e.fp.n y.e.fp.c) := HD.out.ob.cell (j := 11) rfl
    have kp : wb.cell? ⟨w.heap.size, 12, none⟩ = some (.slice m.m.vp.a m.m.vp.n m.m.vp.c) := HD.out.om.cell rfl
    by_cases h1 : y.e.ft = m.m.vt
    · rw [decide_eq_true h1, Bool.true_and] at hvb
      have hS := cSame (HYA.out.on HD.out.be).1 (HMA.out.on HD.out.be).1 (by have := HOK.out.short.1; omega) (by have := HMS.out.1; omega)
      rw [← hvb] at hS
      clear hvb
      rw [h1] at kf
      go_wp2_with (first
        | (go_at_call 142; refine hS.mono ?_; rintro z w1 ⟨rfl, hB⟩; have HD1 := hid (HD.out.on hB); clear hB)
        | fail)
      go_meet
      exact ⟨rfl, HD1⟩
    · rw [decide_eq_false h1, Bool.false_and] at hvb
      subst hvb
      go_wp2_with fail
      go_meet
      exact ⟨rfl, HD⟩
  case rest =>
    obtain ⟨rfl, HD2⟩ := hcut
    clear HD
    obtain ⟨bal, hbal⟩ : ∃ z, z = m.m.bal := ⟨_, rfl⟩
    obtain ⟨fl, hfl⟩ : ∃ z, z = m.m.fl := ⟨_, rfl⟩
    have HBAL := hid hbal
    have HFL := hid hfl
    obtain ⟨okb, hok⟩ : ∃ z, z = (vb && (decide (bal = 0) || fl)) := ⟨_, rfl⟩
    have HOKB := hid hok
    have kb : wc.cell? ⟨w.heap.size, 3, none⟩ = some (.int .i64 bal) := by rw [hbal]; exact HD2.out.om.cell rfl
    have kl : wc.cell? ⟨w.heap.size, 13, none⟩ = some (.bool fl) := by rw [hfl]; exact HD2.out.om.cell rfl
    clear hbal hfl hok
    go_upto_region 3 with fail
    go_cut [38] from 29 to 37 (fun u wx => u = .bool okb ∧ Hid (De w wx p m y))
    case first =>
      have ho := HOKB.out
      rcases vb with _ | _
      · obtain rfl : okb = false := by rw [ho]; rfl
        clear ho
        go_wp2_with fail
        go_meet
        exact ⟨rfl, HD2⟩
      · by_cases h0 : bal = 0
        · obtain rfl : okb = true := by rw [ho, decide_eq_true h0]; rfl
          subst h0
          clear ho
          go_wp2_with fail
          go_meet
          exact ⟨rfl, HD2⟩
        · obtain rfl : okb = fl := by rw [ho, decide_eq_false h0]; simp
          have hbf : (bal == 0) = false := by simpa using h0
          clear ho
          go_wp2_with fail
          go_meet
          exact ⟨rfl, HD2⟩
    case rest =>
      obtain ⟨rfl, HD3⟩ := hcut
      clear HD2 kb kl
      have HDE : Hid ((votedB m y && (decide (m.m.bal = 0) || m.m.fl)) = okb) := hid (by rw [HOKB.out, HVB.out, HBAL.out, HFL.out])
      have HVV := hid (HV.out.on HD3.out.be)
      rcases okb with _ | _
      · go_upto_region 5 with fail
        go_cut [71] from 45 to 70 (fun u wx => u = .bool kb ∧ Hid (De w wx p m y))
        case first =>
          have HFA : Hid (∀ V, Below wc.heap.size wc V → V.cell? ⟨q, 0, none⟩ = some (ptr x) ∧ V.cell? ⟨w.heap.size, 12, none⟩ = some (.slice m.m.vp.a m.m.vp.n m.m.vp.c) ∧ V.cell? ⟨w.heap.size, 13, none⟩ = some (.bool fl) ∧ V.cell? ⟨p, 0, none⟩ = some (.int .i64 m.m.c.i) ∧ V.cell? ⟨p, 1, none⟩ = some (.int .i64 m.m.c.k) ∧ V.cell? ⟨p, 2, none⟩ = some (.int .i64 m.m.c.s) ∧ V.cell? ⟨p, 3, none⟩ = some (.int .i64 m.m.c.t) ∧ V.cell? ⟨p, 4, none⟩ = some (.int .i64 m.m.c.d) ∧ V.cell? ⟨p, 5, none⟩ = some (.int .i64 m.m.c.p) ∧ V.cell? ⟨p, 6, none⟩ = some (.int .i64 m.m.c.q)) := hid fun V hW => by
            have hd := HD3.out.on hW
            exact ⟨(HVV.out.on hW).cell0, hd.om.cell rfl, by rw [HFL.out]; exact hd.om.cell rfl, (cellAt' hd.oc 0).trans rfl, (cellAt' hd.oc 1).trans rfl, (cellAt' hd.oc 2).trans rfl, (cellAt' hd.oc 3).trans rfl, (cellAt' hd.oc 4).trans rfl, (cellAt' hd.oc 5).trans rfl, (cellAt' hd.oc 6).trans rfl⟩
          refine rh_start (S := fun V => Below wc.heap.size wc V) (n := 27) (listed := #[false, false, false, false, false, false, false, false, false, false, false, false, false, false, false, false, false, false, false, false, false, false, false, false, false, false, false]) (by kernel_rfl) rfl rfl ?_
          have HS0 : Hid (Below wc.heap.size wc wc.drew) := hid (belowDrew (Below.refl _ wc))
          generalize wc.drew = wd at HS0 ⊢
          refine rh_takeS (i := 0) (o := ?o11) (v := ?v11) (listed' := ?l11) (a' := ?a11) ?hi11 (by kernel_rfl) (by kernel_rfl) (by kernel_rfl) ?hq11 ?hl11 ?hw11 ?hv11 ?ha11 HS0.out ?hh11
          case hi11 => (simp only [List.getElem?_toArray, List.getElem?_cons_zero]; try rfl)
          case hq11 => exact fun _ _ _ h => h
          case hl11 => (simp only [List.setIfInBounds_toArray, List.set_cons_zero]; try rfl)
          case hw11 => rfl
          case hv11 =>
            intro W hW
            obtain ⟨k0, k2, k3, d0, d1, d2, d3, d4, d5, d6⟩ := HFA.out W hW
            go_simp
            try with_reducible rfl
          case ha11 => (simp only [Act.put, List.setIfInBounds_toArray, List.set_cons_succ, List.set_cons_zero]; try rfl)
          refine rh_takeS (i := 1) (o := ?o12) (v := ?v12) (listed' := ?l12) (a' := ?a12) ?hi12 (by kernel_rfl) (by kernel_rfl) (by kernel_rfl) ?hq12 ?hl12 ?hw12 ?hv12 ?ha12 HS0.out ?hh12
          case hi12 => (simp only [List.getElem?_toArray, List.getElem?_cons_succ, List.getElem?_cons_zero]; try rfl)
          case hq12 => exact fun _ _ _ h => h
          case hl12 => (simp only [List.setIfInBounds_toArray, List.set_cons_succ, List.set_cons_zero]; try rfl)
          case hw12 => rfl
          case hv12 =>
            intro W hW
            obtain ⟨k0, k2, k3, d0, d1, d2, d3, d4, d5, d6⟩ := HFA.out W hW
            go_simp
            try with_reducible rfl
          case ha12 => (simp only [Act.put, List.setIfInBounds_toArray, List.set_cons_succ, List.set_cons_zero]; try rfl)
          refine rh_takeS (i := 2) (o := ?o13) (v := ?v13) (listed' := ?l13) (a' := ?a13) ?hi13 (by kernel_rfl) (by kernel_rfl) (by kernel_rfl) ?hq13 ?hl13 ?hw13 ?hv13 ?ha13 HS0.out ?hh13
          case hi13 => (simp only [List.getElem?_toArray, List.getElem?_cons_succ, List.getElem?_cons_zero]; try rfl)
          case hq13 => exact fun _ _ _ h => h
          case hl13 => (simp only [List.setIfInBounds_toArray, List.set_cons_succ, List.set_cons_zero]; try rfl)
          case hw13 => rfl
          case hv13 =>
            intro W hW
            obtain ⟨k0, k2, k3, d0, d1, d2, d3, d4, d5, d6⟩ := HFA.out W hW
            go_simp
            try with_reducible rfl
          case ha13 => (simp only [Act.put, List.setIfInBounds_toArray, List.set_cons_succ, List.set_cons_zero]; try rfl)
          refine rh_takeS (i := 3) (o := ?o14) (v := ?v14) (listed' := ?l14) (a' := ?a14) ?hi14 (by kernel_rfl) (by kernel_rfl) (by kernel_rfl) ?hq14 ?hl14 ?hw14 ?hv14 ?ha14 HS0.out ?hh14
          case hi14 => (simp only [List.getElem?_toArray, List.getElem?_cons_succ, List.getElem?_cons_zero]; try rfl)
          case hq14 => exact fun _ _ _ h => h
          case hl14 => (simp only [List.setIfInBounds_toArray, List.set_cons_succ, List.set_cons_zero]; try rfl)
          case hw14 => rfl
          case hv14 =>
            intro W hW
            obtain ⟨k0, k2, k3, d0, d1, d2, d3, d4, d5, d6⟩ := HFA.out W hW
            go_simp
            try with_reducible rfl
          case ha14 => (simp only [Act.put, List.setIfInBounds_toArray, List.set_cons_succ, List.set_cons_zero]; try rfl)
          refine rh_takeS (i := 4) (o := ?o15) (v := ?v15) (listed' := ?l15) (a' := ?a15) ?hi15 (by kernel_rfl) (by kernel_rfl) (by kernel_rfl) ?hq15 ?hl15 ?hw15 ?hv15 ?ha15 HS0.out ?hh15
          case hi15 => (simp only [List.getElem?_toArray, List.getElem?_cons_succ, List.getElem?_cons_zero]; try rfl)
          case hq15 => exact fun _ _ _ h => h
          case hl15 => (simp only [List.setIfInBounds_toArray, List.set_cons_succ, List.set_cons_zero]; try rfl)
          case hw15 => rfl
          case hv15 =>
            intro W hW
            obtain ⟨k0, k2, k3, d0, d1, d2, d3, d4, d5, d6⟩ := HFA.out W hW
            go_simp
            try with_reducible rfl
          case ha15 => (simp only [Act.put, List.setIfInBounds_toArray, List.set_cons_succ, List.set_cons_zero]; try rfl)
          refine rh_takeS (i := 5) (o := ?o16) (v := ?v16) (listed' := ?l16) (a' := ?a16) ?hi16 (by kernel_rfl) (by kernel_rfl) (by kernel_rfl) ?hq16 ?hl16 ?hw16 ?hv16 ?ha16 HS0.out ?hh16
          case hi16 => (simp only [List.getElem?_toArray, List.getElem?_cons_succ, List.getElem?_cons_zero]; try rfl)
          case hq16 => exact fun _ _ _ h => h
          case hl16 => (simp only [List.setIfInBounds_toArray, List.set_cons_succ, List.set_cons_zero]; try rfl)
          case hw16 => rfl
          case hv16 =>
            intro W hW
            obtain ⟨k0, k2, k3, d0, d1, d2, d3, d4, d5, d6⟩ := HFA.out W hW
            go_simp
            try with_reducible rfl
          case ha16 => (simp only [Act.put, List.setIfInBounds_toArray, List.set_cons_succ, List.set_cons_zero]; try rfl)
          refine wpAnyH_ready (rs := [6]) (by kernel_rfl) (by simp) ?_
          refine rh_cons (i := 6) (o := ?o17) (listed' := ?l17) ?hi17 ?hl17 ?hg17 ?hh17 ?hs17
          case hi17 => (simp only [List.getElem?_toArray, List.getElem?_cons_succ, List.getElem?_cons_zero]; try rfl)
          case hl17 => (simp only [List.setIfInBounds_toArray, List.set_cons_succ, List.set_cons_zero]; try rfl)
          case hg17 => rfl
          case hs17 => exact AllReadyH.nil
          intro K hK
          go_simp
          refine (cKillersV (HVV.out.on HS0.out) HN.out m.m.c m.m.vt).mono ?_
          rintro z wa ⟨g1, n1, c1, rfl, hn1, hB⟩
          have HSa := hid (HS0.out.trans (hB.mono HS0.out.size))
          have HN1 := hid hn1
          clear hB hn1
          refine hK.out _ _ HSa.out ?_
          clear hK K
          by_cases hz : 0 < n1
          · have hzz : ((0 : Int) < n1) := by omega
            refine rh_takeS (i := 7) (o := ?o18) (v := ?v18) (listed' := ?l18) (a' := ?a18) ?hi18 (by kernel_rfl) (by kernel_rfl) (by kernel_rfl) ?hq18 ?hl18 ?hw18 ?hv18 ?ha18 HSa.out ?hh18
            case hi18 => (simp only [List.getElem?_toArray, List.getElem?_cons_succ, List.getElem?_cons_zero]; try rfl)
            case hq18 => exact fun _ _ _ h => h
            case hl18 => (simp only [List.setIfInBounds_toArray, List.set_cons_succ, List.set_cons_zero]; try rfl)
            case hw18 => rfl
            case hv18 =>
              intro W hW
              skip
              go_simp
              try with_reducible rfl
            case ha18 => (simp only [Act.put, List.setIfInBounds_toArray, List.set_cons_succ, List.set_cons_zero]; try rfl)
            refine rh_takeS (i := 8) (o := ?o19) (v := ?v19) (listed' := ?l19) (a' := ?a19) ?hi19 (by kernel_rfl) (by kernel_rfl) (by kernel_rfl) ?hq19 ?hl19 ?hw19 ?hv19 ?ha19 HSa.out ?hh19
            case hi19 => (simp only [List.getElem?_toArray, List.getElem?_cons_succ, List.getElem?_cons_zero]; try rfl)
            case hq19 => exact fun _ _ _ h => h
            case hl19 => (simp only [List.setIfInBounds_toArray, List.set_cons_succ, List.set_cons_zero]; try rfl)
            case hw19 => rfl
            case hv19 =>
              intro W hW
              skip
              go_simp
              try with_reducible rfl
            case ha19 => (simp only [Act.put, List.setIfInBounds_toArray, List.set_cons_succ, List.set_cons_zero]; try rfl)
            skip
            refine rh_takeS (i := 9) (o := ?o20) (v := ?v20) (listed' := ?l20) (a' := ?a20) ?hi20 (by kernel_rfl) (by kernel_rfl) (by kernel_rfl) ?hq20 ?hl20 ?hw20 ?hv20 ?ha20 HSa.out ?hh20
            case hi20 => (simp only [List.getElem?_toArray, List.getElem?_cons_succ, List.getElem?_cons_zero]; try rfl)
            case hq20 => exact fun _ _ _ h => h
            case hl20 => (simp only [List.setIfInBounds_toArray, List.set_cons_succ, List.set_cons_zero]; try rfl)
            case hw20 => rfl
            case hv20 =>
              intro W hW
              skip
              go_simp
              try with_reducible rfl
            case ha20 => (simp only [Act.put, List.setIfInBounds_toArray, List.set_cons_succ, List.set_cons_zero]; try rfl)
            refine rh_skip (i := 10) (o := ?o21) (listed' := ?l21) (a' := ?a21) ?hi21 (by kernel_rfl) (by kernel_rfl) (by kernel_rfl) ?hq21 ?hl21 ?hw21 ?ha21 HSa.out ?hh21
            case hi21 => (simp only [List.getElem?_toArray, List.getElem?_cons_succ, List.getElem?_cons_zero]; try rfl)
            case hq21 => exact fun _ _ _ h => h
            case hl21 => (simp only [List.setIfInBounds_toArray, List.set_cons_succ, List.set_cons_zero]; try rfl)
            case hw21 => rfl
            case ha21 => (simp only [Act.put, List.setIfInBounds_toArray, List.set_cons_succ, List.set_cons_zero]; try rfl)
            refine rh_skip (i := 11) (o := ?o22) (listed' := ?l22) (a' := ?a22) ?hi22 (by kernel_rfl) (by kernel_rfl) (by kernel_rfl) ?hq22 ?hl22 ?hw22 ?ha22 HSa.out ?hh22
            case hi22 => (simp only [List.getElem?_toArray, List.getElem?_cons_succ, List.getElem?_cons_zero]; try rfl)
            case hq22 => exact fun _ _ _ h => h
            case hl22 => (simp only [List.setIfInBounds_toArray, List.set_cons_succ, List.set_cons_zero]; try rfl)
            case hw22 => rfl
            case ha22 => (simp only [Act.put, List.setIfInBounds_toArray, List.set_cons_succ, List.set_cons_zero]; try rfl)
            refine rh_skip (i := 12) (o := ?o23) (listed' := ?l23) (a' := ?a23) ?hi23 (by kernel_rfl) (by kernel_rfl) (by kernel_rfl) ?hq23 ?hl23 ?hw23 ?ha23 HSa.out ?hh23
            case hi23 => (simp only [List.getElem?_toArray, List.getElem?_cons_succ, List.getElem?_cons_zero]; try rfl)
            case hq23 => exact fun _ _ _ h => h
            case hl23 => (simp only [List.setIfInBounds_toArray, List.set_cons_succ, List.set_cons_zero]; try rfl)
            case hw23 => rfl
            case ha23 => (simp only [Act.put, List.setIfInBounds_toArray, List.set_cons_succ, List.set_cons_zero]; try rfl)
            refine rh_skip (i := 13) (o := ?o24) (listed' := ?l24) (a' := ?a24) ?hi24 (by kernel_rfl) (by kernel_rfl) (by kernel_rfl) ?hq24 ?hl24 ?hw24 ?ha24 HSa.out ?hh24
            case hi24 => (simp only [List.getElem?_toArray, List.getElem?_cons_succ, List.getElem?_cons_zero]; try rfl)
            case hq24 => exact fun _ _ _ h => h
            case hl24 => (simp only [List.setIfInBounds_toArray, List.set_cons_succ, List.set_cons_zero]; try rfl)
            case hw24 => rfl
            case ha24 => (simp only [Act.put, List.setIfInBounds_toArray, List.set_cons_succ, List.set_cons_zero]; try rfl)
            refine rh_skip (i := 14) (o := ?o25) (listed' := ?l25) (a' := ?a25) ?hi25 (by kernel_rfl) (by kernel_rfl) (by kernel_rfl) ?hq25 ?hl25 ?hw25 ?ha25 HSa.out ?hh25
            case hi25 => (simp only [List.getElem?_toArray, List.getElem?_cons_succ, List.getElem?_cons_zero]; try rfl)
            case hq25 => exact fun _ _ _ h => h
            case hl25 => (simp only [List.setIfInBounds_toArray, List.set_cons_succ, List.set_cons_zero]; try rfl)
            case hw25 => rfl
            case ha25 => (simp only [Act.put, List.setIfInBounds_toArray, List.set_cons_succ, List.set_cons_zero]; try rfl)
            refine rh_skip (i := 15) (o := ?o26) (listed' := ?l26) (a' := ?a26) ?hi26 (by kernel_rfl) (by kernel_rfl) (by kernel_rfl) ?hq26 ?hl26 ?hw26 ?ha26 HSa.out ?hh26
            case hi26 => (simp only [List.getElem?_toArray, List.getElem?_cons_succ, List.getElem?_cons_zero]; try rfl)
            case hq26 => exact fun _ _ _ h => h
            case hl26 => (simp only [List.setIfInBounds_toArray, List.set_cons_succ, List.set_cons_zero]; try rfl)
            case hw26 => rfl
            case ha26 => (simp only [Act.put, List.setIfInBounds_toArray, List.set_cons_succ, List.set_cons_zero]; try rfl)
            refine rh_skip (i := 16) (o := ?o27) (listed' := ?l27) (a' := ?a27) ?hi27 (by kernel_rfl) (by kernel_rfl) (by kernel_rfl) ?hq27 ?hl27 ?hw27 ?ha27 HSa.out ?hh27
            case hi27 => (simp only [List.getElem?_toArray, List.getElem?_cons_succ, List.getElem?_cons_zero]; try rfl)
            case hq27 => exact fun _ _ _ h => h
            case hl27 => (simp only [List.setIfInBounds_toArray, List.set_cons_succ, List.set_cons_zero]; try rfl)
            case hw27 => rfl
            case ha27 => (simp only [Act.put, List.setIfInBounds_toArray, List.set_cons_succ, List.set_cons_zero]; try rfl)
            refine rh_skip (i := 17) (o := ?o28) (listed' := ?l28) (a' := ?a28) ?hi28 (by kernel_rfl) (by kernel_rfl) (by kernel_rfl) ?hq28 ?hl28 ?hw28 ?ha28 HSa.out ?hh28
            case hi28 => (simp only [List.getElem?_toArray, List.getElem?_cons_succ, List.getElem?_cons_zero]; try rfl)
            case hq28 => exact fun _ _ _ h => h
            case hl28 => (simp only [List.setIfInBounds_toArray, List.set_cons_succ, List.set_cons_zero]; try rfl)
            case hw28 => rfl
            case ha28 => (simp only [Act.put, List.setIfInBounds_toArray, List.set_cons_succ, List.set_cons_zero]; try rfl)
            refine rh_skip (i := 18) (o := ?o29) (listed' := ?l29) (a' := ?a29) ?hi29 (by kernel_rfl) (by kernel_rfl) (by kernel_rfl) ?hq29 ?hl29 ?hw29 ?ha29 HSa.out ?hh29
            case hi29 => (simp only [List.getElem?_toArray, List.getElem?_cons_succ, List.getElem?_cons_zero]; try rfl)
            case hq29 => exact fun _ _ _ h => h
            case hl29 => (simp only [List.setIfInBounds_toArray, List.set_cons_succ, List.set_cons_zero]; try rfl)
            case hw29 => rfl
            case ha29 => (simp only [Act.put, List.setIfInBounds_toArray, List.set_cons_succ, List.set_cons_zero]; try rfl)
            refine rh_skip (i := 19) (o := ?o30) (listed' := ?l30) (a' := ?a30) ?hi30 (by kernel_rfl) (by kernel_rfl) (by kernel_rfl) ?hq30 ?hl30 ?hw30 ?ha30 HSa.out ?hh30
            case hi30 => (simp only [List.getElem?_toArray, List.getElem?_cons_succ, List.getElem?_cons_zero]; try rfl)
            case hq30 => exact fun _ _ _ h => h
            case hl30 => (simp only [List.setIfInBounds_toArray, List.set_cons_succ, List.set_cons_zero]; try rfl)
            case hw30 => rfl
            case ha30 => (simp only [Act.put, List.setIfInBounds_toArray, List.set_cons_succ, List.set_cons_zero]; try rfl)
            refine rh_skip (i := 20) (o := ?o31) (listed' := ?l31) (a' := ?a31) ?hi31 (by kernel_rfl) (by kernel_rfl) (by kernel_rfl) ?hq31 ?hl31 ?hw31 ?ha31 HSa.out ?hh31
            case hi31 => (simp only [List.getElem?_toArray, List.getElem?_cons_succ, List.getElem?_cons_zero]; try rfl)
            case hq31 => exact fun _ _ _ h => h
            case hl31 => (simp only [List.setIfInBounds_toArray, List.set_cons_succ, List.set_cons_zero]; try rfl)
            case hw31 => rfl
            case ha31 => (simp only [Act.put, List.setIfInBounds_toArray, List.set_cons_succ, List.set_cons_zero]; try rfl)
            refine rh_skip (i := 21) (o := ?o32) (listed' := ?l32) (a' := ?a32) ?hi32 (by kernel_rfl) (by kernel_rfl) (by kernel_rfl) ?hq32 ?hl32 ?hw32 ?ha32 HSa.out ?hh32
            case hi32 => (simp only [List.getElem?_toArray, List.getElem?_cons_succ, List.getElem?_cons_zero]; try rfl)
            case hq32 => exact fun _ _ _ h => h
            case hl32 => (simp only [List.setIfInBounds_toArray, List.set_cons_succ, List.set_cons_zero]; try rfl)
            case hw32 => rfl
            case ha32 => (simp only [Act.put, List.setIfInBounds_toArray, List.set_cons_succ, List.set_cons_zero]; try rfl)
            refine rh_skip (i := 22) (o := ?o33) (listed' := ?l33) (a' := ?a33) ?hi33 (by kernel_rfl) (by kernel_rfl) (by kernel_rfl) ?hq33 ?hl33 ?hw33 ?ha33 HSa.out ?hh33
            case hi33 => (simp only [List.getElem?_toArray, List.getElem?_cons_succ, List.getElem?_cons_zero]; try rfl)
            case hq33 => exact fun _ _ _ h => h
            case hl33 => (simp only [List.setIfInBounds_toArray, List.set_cons_succ, List.set_cons_zero]; try rfl)
            case hw33 => rfl
            case ha33 => (simp only [Act.put, List.setIfInBounds_toArray, List.set_cons_succ, List.set_cons_zero]; try rfl)
            refine rh_skip (i := 23) (o := ?o34) (listed' := ?l34) (a' := ?a34) ?hi34 (by kernel_rfl) (by kernel_rfl) (by kernel_rfl) ?hq34 ?hl34 ?hw34 ?ha34 HSa.out ?hh34
            case hi34 => (simp only [List.getElem?_toArray, List.getElem?_cons_succ, List.getElem?_cons_zero]; try rfl)
            case hq34 => exact fun _ _ _ h => h
            case hl34 => (simp only [List.setIfInBounds_toArray, List.set_cons_succ, List.set_cons_zero]; try rfl)
            case hw34 => rfl
            case ha34 => (simp only [Act.put, List.setIfInBounds_toArray, List.set_cons_succ, List.set_cons_zero]; try rfl)
            refine rh_skip (i := 24) (o := ?o35) (listed' := ?l35) (a' := ?a35) ?hi35 (by kernel_rfl) (by kernel_rfl) (by kernel_rfl) ?hq35 ?hl35 ?hw35 ?ha35 HSa.out ?hh35
            case hi35 => (simp only [List.getElem?_toArray, List.getElem?_cons_succ, List.getElem?_cons_zero]; try rfl)
            case hq35 => exact fun _ _ _ h => h
            case hl35 => (simp only [List.setIfInBounds_toArray, List.set_cons_succ, List.set_cons_zero]; try rfl)
            case hw35 => rfl
            case ha35 => (simp only [Act.put, List.setIfInBounds_toArray, List.set_cons_succ, List.set_cons_zero]; try rfl)
            refine rh_skip (i := 25) (o := ?o36) (listed' := ?l36) (a' := ?a36) ?hi36 (by kernel_rfl) (by kernel_rfl) (by kernel_rfl) ?hq36 ?hl36 ?hw36 ?ha36 HSa.out ?hh36
            case hi36 => (simp only [List.getElem?_toArray, List.getElem?_cons_succ, List.getElem?_cons_zero]; try rfl)
            case hq36 => exact fun _ _ _ h => h
            case hl36 => (simp only [List.setIfInBounds_toArray, List.set_cons_succ, List.set_cons_zero]; try rfl)
            case hw36 => rfl
            case ha36 => (simp only [Act.put, List.setIfInBounds_toArray, List.set_cons_succ, List.set_cons_zero]; try rfl)
            refine rh_takeS (i := 26) (o := ?o37) (v := ?v37) (listed' := ?l37) (a' := ?a37) ?hi37 (by kernel_rfl) (by kernel_rfl) (by kernel_rfl) ?hq37 ?hl37 ?hw37 ?hv37 ?ha37 HSa.out ?hh37
            case hi37 => (simp only [List.getElem?_toArray, List.getElem?_cons_succ, List.getElem?_cons_zero]; try rfl)
            case hq37 => exact fun _ _ _ h => h
            case hl37 => (simp only [List.setIfInBounds_toArray, List.set_cons_succ, List.set_cons_zero]; try rfl)
            case hw37 => rfl
            case hv37 =>
              intro W hW
              skip
              go_simp
              try with_reducible rfl
            case ha37 => (simp only [Act.put, List.setIfInBounds_toArray, List.set_cons_succ, List.set_cons_zero]; try rfl)
            refine wpAnyH_done (by kernel_rfl) ?_ _
            obtain rfl : kb = true := by rw [HKB.out]; unfold killsB; rw [← HN1.out, decide_eq_true hz]; rfl
            go_wp2_with fail
            go_meet
            exact ⟨rfl, hid (HD3.out.on HSa.out)⟩
          · have hzz : ¬ ((0 : Int) < n1) := by omega
            refine rh_takeS (i := 7) (o := ?o38) (v := ?v38) (listed' := ?l38) (a' := ?a38) ?hi38 (by kernel_rfl) (by kernel_rfl) (by kernel_rfl) ?hq38 ?hl38 ?hw38 ?hv38 ?ha38 HSa.out ?hh38
            case hi38 => (simp only [List.getElem?_toArray, List.getElem?_cons_succ, List.getElem?_cons_zero]; try rfl)
            case hq38 => exact fun _ _ _ h => h
            case hl38 => (simp only [List.setIfInBounds_toArray, List.set_cons_succ, List.set_cons_zero]; try rfl)
            case hw38 => rfl
            case hv38 =>
              intro W hW
              skip
              go_simp
              try with_reducible rfl
            case ha38 => (simp only [Act.put, List.setIfInBounds_toArray, List.set_cons_succ, List.set_cons_zero]; try rfl)
            refine rh_takeS (i := 8) (o := ?o39) (v := ?v39) (listed' := ?l39) (a' := ?a39) ?hi39 (by kernel_rfl) (by kernel_rfl) (by kernel_rfl) ?hq39 ?hl39 ?hw39 ?hv39 ?ha39 HSa.out ?hh39
            case hi39 => (simp only [List.getElem?_toArray, List.getElem?_cons_succ, List.getElem?_cons_zero]; try rfl)
            case hq39 => exact fun _ _ _ h => h
            case hl39 => (simp only [List.setIfInBounds_toArray, List.set_cons_succ, List.set_cons_zero]; try rfl)
            case hw39 => rfl
            case hv39 =>
              intro W hW
              skip
              go_simp
              try with_reducible rfl
            case ha39 => (simp only [Act.put, List.setIfInBounds_toArray, List.set_cons_succ, List.set_cons_zero]; try rfl)
            refine rh_takeS (i := 9) (o := ?o40) (v := ?v40) (listed' := ?l40) (a' := ?a40) ?hi40 (by kernel_rfl) (by kernel_rfl) (by kernel_rfl) ?hq40 ?hl40 ?hw40 ?hv40 ?ha40 HSa.out ?hh40
            case hi40 => (simp only [List.getElem?_toArray, List.getElem?_cons_succ, List.getElem?_cons_zero]; try rfl)
            case hq40 => exact fun _ _ _ h => h
            case hl40 => (simp only [List.setIfInBounds_toArray, List.set_cons_succ, List.set_cons_zero]; try rfl)
            case hw40 => rfl
            case hv40 =>
              intro W hW
              skip
              go_simp
              try with_reducible rfl
            case ha40 => (simp only [Act.put, List.setIfInBounds_toArray, List.set_cons_succ, List.set_cons_zero]; try rfl)
            refine rh_takeS (i := 10) (o := ?o41) (v := ?v41) (listed' := ?l41) (a' := ?a41) ?hi41 (by kernel_rfl) (by kernel_rfl) (by kernel_rfl) ?hq41 ?hl41 ?hw41 ?hv41 ?ha41 HSa.out ?hh41
            case hi41 => (simp only [List.getElem?_toArray, List.getElem?_cons_succ, List.getElem?_cons_zero]; try rfl)
            case hq41 => exact fun _ _ _ h => h
            case hl41 => (simp only [List.setIfInBounds_toArray, List.set_cons_succ, List.set_cons_zero]; try rfl)
            case hw41 => rfl
            case hv41 =>
              intro W hW
              obtain ⟨k0, k2, k3, d0, d1, d2, d3, d4, d5, d6⟩ := HFA.out W hW
              go_simp
              try with_reducible rfl
            case ha41 => (simp only [Act.put, List.setIfInBounds_toArray, List.set_cons_succ, List.set_cons_zero]; try rfl)
            refine rh_takeS (i := 11) (o := ?o42) (v := ?v42) (listed' := ?l42) (a' := ?a42) ?hi42 (by kernel_rfl) (by kernel_rfl) (by kernel_rfl) ?hq42 ?hl42 ?hw42 ?hv42 ?ha42 HSa.out ?hh42
            case hi42 => (simp only [List.getElem?_toArray, List.getElem?_cons_succ, List.getElem?_cons_zero]; try rfl)
            case hq42 => exact fun _ _ _ h => h
            case hl42 => (simp only [List.setIfInBounds_toArray, List.set_cons_succ, List.set_cons_zero]; try rfl)
            case hw42 => rfl
            case hv42 =>
              intro W hW
              obtain ⟨k0, k2, k3, d0, d1, d2, d3, d4, d5, d6⟩ := HFA.out W hW
              go_simp
              try with_reducible rfl
            case ha42 => (simp only [Act.put, List.setIfInBounds_toArray, List.set_cons_succ, List.set_cons_zero]; try rfl)
            refine rh_takeS (i := 12) (o := ?o43) (v := ?v43) (listed' := ?l43) (a' := ?a43) ?hi43 (by kernel_rfl) (by kernel_rfl) (by kernel_rfl) ?hq43 ?hl43 ?hw43 ?hv43 ?ha43 HSa.out ?hh43
            case hi43 => (simp only [List.getElem?_toArray, List.getElem?_cons_succ, List.getElem?_cons_zero]; try rfl)
            case hq43 => exact fun _ _ _ h => h
            case hl43 => (simp only [List.setIfInBounds_toArray, List.set_cons_succ, List.set_cons_zero]; try rfl)
            case hw43 => rfl
            case hv43 =>
              intro W hW
              obtain ⟨k0, k2, k3, d0, d1, d2, d3, d4, d5, d6⟩ := HFA.out W hW
              go_simp
              try with_reducible rfl
            case ha43 => (simp only [Act.put, List.setIfInBounds_toArray, List.set_cons_succ, List.set_cons_zero]; try rfl)
            rcases fl with _ | _
            · refine rh_skip (i := 13) (o := ?o44) (listed' := ?l44) (a' := ?a44) ?hi44 (by kernel_rfl) (by kernel_rfl) (by kernel_rfl) ?hq44 ?hl44 ?hw44 ?ha44 HSa.out ?hh44
              case hi44 => (simp only [List.getElem?_toArray, List.getElem?_cons_succ, List.getElem?_cons_zero]; try rfl)
              case hq44 => exact fun _ _ _ h => h
              case hl44 => (simp only [List.setIfInBounds_toArray, List.set_cons_succ, List.set_cons_zero]; try rfl)
              case hw44 => rfl
              case ha44 => (simp only [Act.put, List.setIfInBounds_toArray, List.set_cons_succ, List.set_cons_zero]; try rfl)
              refine rh_skip (i := 14) (o := ?o45) (listed' := ?l45) (a' := ?a45) ?hi45 (by kernel_rfl) (by kernel_rfl) (by kernel_rfl) ?hq45 ?hl45 ?hw45 ?ha45 HSa.out ?hh45
              case hi45 => (simp only [List.getElem?_toArray, List.getElem?_cons_succ, List.getElem?_cons_zero]; try rfl)
              case hq45 => exact fun _ _ _ h => h
              case hl45 => (simp only [List.setIfInBounds_toArray, List.set_cons_succ, List.set_cons_zero]; try rfl)
              case hw45 => rfl
              case ha45 => (simp only [Act.put, List.setIfInBounds_toArray, List.set_cons_succ, List.set_cons_zero]; try rfl)
              refine rh_skip (i := 15) (o := ?o46) (listed' := ?l46) (a' := ?a46) ?hi46 (by kernel_rfl) (by kernel_rfl) (by kernel_rfl) ?hq46 ?hl46 ?hw46 ?ha46 HSa.out ?hh46
              case hi46 => (simp only [List.getElem?_toArray, List.getElem?_cons_succ, List.getElem?_cons_zero]; try rfl)
              case hq46 => exact fun _ _ _ h => h
              case hl46 => (simp only [List.setIfInBounds_toArray, List.set_cons_succ, List.set_cons_zero]; try rfl)
              case hw46 => rfl
              case ha46 => (simp only [Act.put, List.setIfInBounds_toArray, List.set_cons_succ, List.set_cons_zero]; try rfl)
              refine rh_skip (i := 16) (o := ?o47) (listed' := ?l47) (a' := ?a47) ?hi47 (by kernel_rfl) (by kernel_rfl) (by kernel_rfl) ?hq47 ?hl47 ?hw47 ?ha47 HSa.out ?hh47
              case hi47 => (simp only [List.getElem?_toArray, List.getElem?_cons_succ, List.getElem?_cons_zero]; try rfl)
              case hq47 => exact fun _ _ _ h => h
              case hl47 => (simp only [List.setIfInBounds_toArray, List.set_cons_succ, List.set_cons_zero]; try rfl)
              case hw47 => rfl
              case ha47 => (simp only [Act.put, List.setIfInBounds_toArray, List.set_cons_succ, List.set_cons_zero]; try rfl)
              refine rh_skip (i := 17) (o := ?o48) (listed' := ?l48) (a' := ?a48) ?hi48 (by kernel_rfl) (by kernel_rfl) (by kernel_rfl) ?hq48 ?hl48 ?hw48 ?ha48 HSa.out ?hh48
              case hi48 => (simp only [List.getElem?_toArray, List.getElem?_cons_succ, List.getElem?_cons_zero]; try rfl)
              case hq48 => exact fun _ _ _ h => h
              case hl48 => (simp only [List.setIfInBounds_toArray, List.set_cons_succ, List.set_cons_zero]; try rfl)
              case hw48 => rfl
              case ha48 => (simp only [Act.put, List.setIfInBounds_toArray, List.set_cons_succ, List.set_cons_zero]; try rfl)
              refine rh_skip (i := 18) (o := ?o49) (listed' := ?l49) (a' := ?a49) ?hi49 (by kernel_rfl) (by kernel_rfl) (by kernel_rfl) ?hq49 ?hl49 ?hw49 ?ha49 HSa.out ?hh49
              case hi49 => (simp only [List.getElem?_toArray, List.getElem?_cons_succ, List.getElem?_cons_zero]; try rfl)
              case hq49 => exact fun _ _ _ h => h
              case hl49 => (simp only [List.setIfInBounds_toArray, List.set_cons_succ, List.set_cons_zero]; try rfl)
              case hw49 => rfl
              case ha49 => (simp only [Act.put, List.setIfInBounds_toArray, List.set_cons_succ, List.set_cons_zero]; try rfl)
              refine rh_skip (i := 19) (o := ?o50) (listed' := ?l50) (a' := ?a50) ?hi50 (by kernel_rfl) (by kernel_rfl) (by kernel_rfl) ?hq50 ?hl50 ?hw50 ?ha50 HSa.out ?hh50
              case hi50 => (simp only [List.getElem?_toArray, List.getElem?_cons_succ, List.getElem?_cons_zero]; try rfl)
              case hq50 => exact fun _ _ _ h => h
              case hl50 => (simp only [List.setIfInBounds_toArray, List.set_cons_succ, List.set_cons_zero]; try rfl)
              case hw50 => rfl
              case ha50 => (simp only [Act.put, List.setIfInBounds_toArray, List.set_cons_succ, List.set_cons_zero]; try rfl)
              refine rh_skip (i := 20) (o := ?o51) (listed' := ?l51) (a' := ?a51) ?hi51 (by kernel_rfl) (by kernel_rfl) (by kernel_rfl) ?hq51 ?hl51 ?hw51 ?ha51 HSa.out ?hh51
              case hi51 => (simp only [List.getElem?_toArray, List.getElem?_cons_succ, List.getElem?_cons_zero]; try rfl)
              case hq51 => exact fun _ _ _ h => h
              case hl51 => (simp only [List.setIfInBounds_toArray, List.set_cons_succ, List.set_cons_zero]; try rfl)
              case hw51 => rfl
              case ha51 => (simp only [Act.put, List.setIfInBounds_toArray, List.set_cons_succ, List.set_cons_zero]; try rfl)
              refine rh_skip (i := 21) (o := ?o52) (listed' := ?l52) (a' := ?a52) ?hi52 (by kernel_rfl) (by kernel_rfl) (by kernel_rfl) ?hq52 ?hl52 ?hw52 ?ha52 HSa.out ?hh52
              case hi52 => (simp only [List.getElem?_toArray, List.getElem?_cons_succ, List.getElem?_cons_zero]; try rfl)
              case hq52 => exact fun _ _ _ h => h
              case hl52 => (simp only [List.setIfInBounds_toArray, List.set_cons_succ, List.set_cons_zero]; try rfl)
              case hw52 => rfl
              case ha52 => (simp only [Act.put, List.setIfInBounds_toArray, List.set_cons_succ, List.set_cons_zero]; try rfl)
              refine rh_skip (i := 22) (o := ?o53) (listed' := ?l53) (a' := ?a53) ?hi53 (by kernel_rfl) (by kernel_rfl) (by kernel_rfl) ?hq53 ?hl53 ?hw53 ?ha53 HSa.out ?hh53
              case hi53 => (simp only [List.getElem?_toArray, List.getElem?_cons_succ, List.getElem?_cons_zero]; try rfl)
              case hq53 => exact fun _ _ _ h => h
              case hl53 => (simp only [List.setIfInBounds_toArray, List.set_cons_succ, List.set_cons_zero]; try rfl)
              case hw53 => rfl
              case ha53 => (simp only [Act.put, List.setIfInBounds_toArray, List.set_cons_succ, List.set_cons_zero]; try rfl)
              refine rh_skip (i := 23) (o := ?o54) (listed' := ?l54) (a' := ?a54) ?hi54 (by kernel_rfl) (by kernel_rfl) (by kernel_rfl) ?hq54 ?hl54 ?hw54 ?ha54 HSa.out ?hh54
              case hi54 => (simp only [List.getElem?_toArray, List.getElem?_cons_succ, List.getElem?_cons_zero]; try rfl)
              case hq54 => exact fun _ _ _ h => h
              case hl54 => (simp only [List.setIfInBounds_toArray, List.set_cons_succ, List.set_cons_zero]; try rfl)
              case hw54 => rfl
              case ha54 => (simp only [Act.put, List.setIfInBounds_toArray, List.set_cons_succ, List.set_cons_zero]; try rfl)
              refine rh_skip (i := 24) (o := ?o55) (listed' := ?l55) (a' := ?a55) ?hi55 (by kernel_rfl) (by kernel_rfl) (by kernel_rfl) ?hq55 ?hl55 ?hw55 ?ha55 HSa.out ?hh55
              case hi55 => (simp only [List.getElem?_toArray, List.getElem?_cons_succ, List.getElem?_cons_zero]; try rfl)
              case hq55 => exact fun _ _ _ h => h
              case hl55 => (simp only [List.setIfInBounds_toArray, List.set_cons_succ, List.set_cons_zero]; try rfl)
              case hw55 => rfl
              case ha55 => (simp only [Act.put, List.setIfInBounds_toArray, List.set_cons_succ, List.set_cons_zero]; try rfl)
              refine rh_takeS (i := 25) (o := ?o56) (v := ?v56) (listed' := ?l56) (a' := ?a56) ?hi56 (by kernel_rfl) (by kernel_rfl) (by kernel_rfl) ?hq56 ?hl56 ?hw56 ?hv56 ?ha56 HSa.out ?hh56
              case hi56 => (simp only [List.getElem?_toArray, List.getElem?_cons_succ, List.getElem?_cons_zero]; try rfl)
              case hq56 => exact fun _ _ _ h => h
              case hl56 => (simp only [List.setIfInBounds_toArray, List.set_cons_succ, List.set_cons_zero]; try rfl)
              case hw56 => rfl
              case hv56 =>
                intro W hW
                skip
                go_simp
                try with_reducible rfl
              case ha56 => (simp only [Act.put, List.setIfInBounds_toArray, List.set_cons_succ, List.set_cons_zero]; try rfl)
              refine rh_takeS (i := 26) (o := ?o57) (v := ?v57) (listed' := ?l57) (a' := ?a57) ?hi57 (by kernel_rfl) (by kernel_rfl) (by kernel_rfl) ?hq57 ?hl57 ?hw57 ?hv57 ?ha57 HSa.out ?hh57
              case hi57 => (simp only [List.getElem?_toArray, List.getElem?_cons_succ, List.getElem?_cons_zero]; try rfl)
              case hq57 => exact fun _ _ _ h => h
              case hl57 => (simp only [List.setIfInBounds_toArray, List.set_cons_succ, List.set_cons_zero]; try rfl)
              case hw57 => rfl
              case hv57 =>
                intro W hW
                skip
                go_simp
                try with_reducible rfl
              case ha57 => (simp only [Act.put, List.setIfInBounds_toArray, List.set_cons_succ, List.set_cons_zero]; try rfl)
              refine wpAnyH_done (by kernel_rfl) ?_ _
              obtain rfl : kb = false := by rw [HKB.out]; unfold killsB; rw [← HN1.out, decide_eq_false hz, ← HFL.out]; rfl
              go_wp2_with fail
              go_meet
              exact ⟨rfl, hid (HD3.out.on HSa.out)⟩
            · refine rh_takeS (i := 13) (o := ?o58) (v := ?v58) (listed' := ?l58) (a' := ?a58) ?hi58 (by kernel_rfl) (by kernel_rfl) (by kernel_rfl) ?hq58 ?hl58 ?hw58 ?hv58 ?ha58 HSa.out ?hh58
              case hi58 => (simp only [List.getElem?_toArray, List.getElem?_cons_succ, List.getElem?_cons_zero]; try rfl)
              case hq58 => exact fun _ _ _ h => h
              case hl58 => (simp only [List.setIfInBounds_toArray, List.set_cons_succ, List.set_cons_zero]; try rfl)
              case hw58 => rfl
              case hv58 =>
                intro W hW
                obtain ⟨k0, k2, k3, d0, d1, d2, d3, d4, d5, d6⟩ := HFA.out W hW
                go_simp
                try with_reducible rfl
              case ha58 => (simp only [Act.put, List.setIfInBounds_toArray, List.set_cons_succ, List.set_cons_zero]; try rfl)
              refine rh_takeS (i := 14) (o := ?o59) (v := ?v59) (listed' := ?l59) (a' := ?a59) ?hi59 (by kernel_rfl) (by kernel_rfl) (by kernel_rfl) ?hq59 ?hl59 ?hw59 ?hv59 ?ha59 HSa.out ?hh59
              case hi59 => (simp only [List.getElem?_toArray, List.getElem?_cons_succ, List.getElem?_cons_zero]; try rfl)
              case hq59 => exact fun _ _ _ h => h
              case hl59 => (simp only [List.setIfInBounds_toArray, List.set_cons_succ, List.set_cons_zero]; try rfl)
              case hw59 => rfl
              case hv59 =>
                intro W hW
                obtain ⟨k0, k2, k3, d0, d1, d2, d3, d4, d5, d6⟩ := HFA.out W hW
                go_simp
                try with_reducible rfl
              case ha59 => (simp only [Act.put, List.setIfInBounds_toArray, List.set_cons_succ, List.set_cons_zero]; try rfl)
              refine rh_takeS (i := 15) (o := ?o60) (v := ?v60) (listed' := ?l60) (a' := ?a60) ?hi60 (by kernel_rfl) (by kernel_rfl) (by kernel_rfl) ?hq60 ?hl60 ?hw60 ?hv60 ?ha60 HSa.out ?hh60
              case hi60 => (simp only [List.getElem?_toArray, List.getElem?_cons_succ, List.getElem?_cons_zero]; try rfl)
              case hq60 => exact fun _ _ _ h => h
              case hl60 => (simp only [List.setIfInBounds_toArray, List.set_cons_succ, List.set_cons_zero]; try rfl)
              case hw60 => rfl
              case hv60 =>
                intro W hW
                obtain ⟨k0, k2, k3, d0, d1, d2, d3, d4, d5, d6⟩ := HFA.out W hW
                go_simp
                try with_reducible rfl
              case ha60 => (simp only [Act.put, List.setIfInBounds_toArray, List.set_cons_succ, List.set_cons_zero]; try rfl)
              refine rh_takeS (i := 16) (o := ?o61) (v := ?v61) (listed' := ?l61) (a' := ?a61) ?hi61 (by kernel_rfl) (by kernel_rfl) (by kernel_rfl) ?hq61 ?hl61 ?hw61 ?hv61 ?ha61 HSa.out ?hh61
              case hi61 => (simp only [List.getElem?_toArray, List.getElem?_cons_succ, List.getElem?_cons_zero]; try rfl)
              case hq61 => exact fun _ _ _ h => h
              case hl61 => (simp only [List.setIfInBounds_toArray, List.set_cons_succ, List.set_cons_zero]; try rfl)
              case hw61 => rfl
              case hv61 =>
                intro W hW
                obtain ⟨k0, k2, k3, d0, d1, d2, d3, d4, d5, d6⟩ := HFA.out W hW
                go_simp
                try with_reducible rfl
              case ha61 => (simp only [Act.put, List.setIfInBounds_toArray, List.set_cons_succ, List.set_cons_zero]; try rfl)
              refine rh_takeS (i := 17) (o := ?o62) (v := ?v62) (listed' := ?l62) (a' := ?a62) ?hi62 (by kernel_rfl) (by kernel_rfl) (by kernel_rfl) ?hq62 ?hl62 ?hw62 ?hv62 ?ha62 HSa.out ?hh62
              case hi62 => (simp only [List.getElem?_toArray, List.getElem?_cons_succ, List.getElem?_cons_zero]; try rfl)
              case hq62 => exact fun _ _ _ h => h
              case hl62 => (simp only [List.setIfInBounds_toArray, List.set_cons_succ, List.set_cons_zero]; try rfl)
              case hw62 => rfl
              case hv62 =>
                intro W hW
                obtain ⟨k0, k2, k3, d0, d1, d2, d3, d4, d5, d6⟩ := HFA.out W hW
                go_simp
                try with_reducible rfl
              case ha62 => (simp only [Act.put, List.setIfInBounds_toArray, List.set_cons_succ, List.set_cons_zero]; try rfl)
              refine rh_takeS (i := 18) (o := ?o63) (v := ?v63) (listed' := ?l63) (a' := ?a63) ?hi63 (by kernel_rfl) (by kernel_rfl) (by kernel_rfl) ?hq63 ?hl63 ?hw63 ?hv63 ?ha63 HSa.out ?hh63
              case hi63 => (simp only [List.getElem?_toArray, List.getElem?_cons_succ, List.getElem?_cons_zero]; try rfl)
              case hq63 => exact fun _ _ _ h => h
              case hl63 => (simp only [List.setIfInBounds_toArray, List.set_cons_succ, List.set_cons_zero]; try rfl)
              case hw63 => rfl
              case hv63 =>
                intro W hW
                obtain ⟨k0, k2, k3, d0, d1, d2, d3, d4, d5, d6⟩ := HFA.out W hW
                go_simp
                try with_reducible rfl
              case ha63 => (simp only [Act.put, List.setIfInBounds_toArray, List.set_cons_succ, List.set_cons_zero]; try rfl)
              refine rh_takeS (i := 19) (o := ?o64) (v := ?v64) (listed' := ?l64) (a' := ?a64) ?hi64 (by kernel_rfl) (by kernel_rfl) (by kernel_rfl) ?hq64 ?hl64 ?hw64 ?hv64 ?ha64 HSa.out ?hh64
              case hi64 => (simp only [List.getElem?_toArray, List.getElem?_cons_succ, List.getElem?_cons_zero]; try rfl)
              case hq64 => exact fun _ _ _ h => h
              case hl64 => (simp only [List.setIfInBounds_toArray, List.set_cons_succ, List.set_cons_zero]; try rfl)
              case hw64 => rfl
              case hv64 =>
                intro W hW
                obtain ⟨k0, k2, k3, d0, d1, d2, d3, d4, d5, d6⟩ := HFA.out W hW
                go_simp
                try with_reducible rfl
              case ha64 => (simp only [Act.put, List.setIfInBounds_toArray, List.set_cons_succ, List.set_cons_zero]; try rfl)
              refine rh_takeS (i := 20) (o := ?o65) (v := ?v65) (listed' := ?l65) (a' := ?a65) ?hi65 (by kernel_rfl) (by kernel_rfl) (by kernel_rfl) ?hq65 ?hl65 ?hw65 ?hv65 ?ha65 HSa.out ?hh65
              case hi65 => (simp only [List.getElem?_toArray, List.getElem?_cons_succ, List.getElem?_cons_zero]; try rfl)
              case hq65 => exact fun _ _ _ h => h
              case hl65 => (simp only [List.setIfInBounds_toArray, List.set_cons_succ, List.set_cons_zero]; try rfl)
              case hw65 => rfl
              case hv65 =>
                intro W hW
                obtain ⟨k0, k2, k3, d0, d1, d2, d3, d4, d5, d6⟩ := HFA.out W hW
                go_simp
                try with_reducible rfl
              case ha65 => (simp only [Act.put, List.setIfInBounds_toArray, List.set_cons_succ, List.set_cons_zero]; try rfl)
              refine rh_takeS (i := 21) (o := ?o66) (v := ?v66) (listed' := ?l66) (a' := ?a66) ?hi66 (by kernel_rfl) (by kernel_rfl) (by kernel_rfl) ?hq66 ?hl66 ?hw66 ?hv66 ?ha66 HSa.out ?hh66
              case hi66 => (simp only [List.getElem?_toArray, List.getElem?_cons_succ, List.getElem?_cons_zero]; try rfl)
              case hq66 => exact fun _ _ _ h => h
              case hl66 => (simp only [List.setIfInBounds_toArray, List.set_cons_succ, List.set_cons_zero]; try rfl)
              case hw66 => rfl
              case hv66 =>
                intro W hW
                obtain ⟨k0, k2, k3, d0, d1, d2, d3, d4, d5, d6⟩ := HFA.out W hW
                go_simp
                try with_reducible rfl
              case ha66 => (simp only [Act.put, List.setIfInBounds_toArray, List.set_cons_succ, List.set_cons_zero]; try rfl)
              refine wpAnyH_ready (rs := [22]) (by kernel_rfl) (by simp) ?_
              refine rh_consW (i := 22) (o := ?o67) (listed' := ?l67) ?hi67 ?hl67 ?hg67 ?hh67 ?hs67
              case hi67 => (simp only [List.getElem?_toArray, List.getElem?_cons_succ, List.getElem?_cons_zero]; try rfl)
              case hl67 => (simp only [List.setIfInBounds_toArray, List.set_cons_succ, List.set_cons_zero]; try rfl)
              case hg67 => rfl
              case hs67 => exact AllReadyH.nil
              intro K hK
              go_simp
              refine (cAbsentV (HVV.out.on HSa.out) HN.out m.m.c m.m.vt (p := m.m.vp) (HMA.out.1.on (HD3.out.be.trans (HSa.out.mono HD3.out.be.size))) HMS.out.1 true).mono ?_
              rintro z wb2 ⟨g2, n2, c2, rfl, hn2, hB⟩
              have HSb := hid (HSa.out.trans (hB.mono HSa.out.size))
              have HN2 := hid hn2
              clear hB hn2
              refine hK.out _ _ HSb.out ?_
              clear hK K
              refine rh_takeS (i := 23) (o := ?o68) (v := ?v68) (listed' := ?l68) (a' := ?a68) ?hi68 (by kernel_rfl) (by kernel_rfl) (by kernel_rfl) ?hq68 ?hl68 ?hw68 ?hv68 ?ha68 HSb.out ?hh68
              case hi68 => (simp only [List.getElem?_toArray, List.getElem?_cons_succ, List.getElem?_cons_zero]; try rfl)
              case hq68 => exact fun _ _ _ h => h
              case hl68 => (simp only [List.setIfInBounds_toArray, List.set_cons_succ, List.set_cons_zero]; try rfl)
              case hw68 => rfl
              case hv68 =>
                intro W hW
                skip
                go_simp
                try with_reducible rfl
              case ha68 => (simp only [Act.put, List.setIfInBounds_toArray, List.set_cons_succ, List.set_cons_zero]; try rfl)
              refine rh_takeS (i := 24) (o := ?o69) (v := ?v69) (listed' := ?l69) (a' := ?a69) ?hi69 (by kernel_rfl) (by kernel_rfl) (by kernel_rfl) ?hq69 ?hl69 ?hw69 ?hv69 ?ha69 HSb.out ?hh69
              case hi69 => (simp only [List.getElem?_toArray, List.getElem?_cons_succ, List.getElem?_cons_zero]; try rfl)
              case hq69 => exact fun _ _ _ h => h
              case hl69 => (simp only [List.setIfInBounds_toArray, List.set_cons_succ, List.set_cons_zero]; try rfl)
              case hw69 => rfl
              case hv69 =>
                intro W hW
                skip
                go_simp
                try with_reducible rfl
              case ha69 => (simp only [Act.put, List.setIfInBounds_toArray, List.set_cons_succ, List.set_cons_zero]; try rfl)
              refine rh_takeS (i := 25) (o := ?o70) (v := ?v70) (listed' := ?l70) (a' := ?a70) ?hi70 (by kernel_rfl) (by kernel_rfl) (by kernel_rfl) ?hq70 ?hl70 ?hw70 ?hv70 ?ha70 HSb.out ?hh70
              case hi70 => (simp only [List.getElem?_toArray, List.getElem?_cons_succ, List.getElem?_cons_zero]; try rfl)
              case hq70 => exact fun _ _ _ h => h
              case hl70 => (simp only [List.setIfInBounds_toArray, List.set_cons_succ, List.set_cons_zero]; try rfl)
              case hw70 => rfl
              case hv70 =>
                intro W hW
                skip
                go_simp
                try with_reducible rfl
              case ha70 => (simp only [Act.put, List.setIfInBounds_toArray, List.set_cons_succ, List.set_cons_zero]; try rfl)
              refine rh_takeS (i := 26) (o := ?o71) (v := ?v71) (listed' := ?l71) (a' := ?a71) ?hi71 (by kernel_rfl) (by kernel_rfl) (by kernel_rfl) ?hq71 ?hl71 ?hw71 ?hv71 ?ha71 HSb.out ?hh71
              case hi71 => (simp only [List.getElem?_toArray, List.getElem?_cons_succ, List.getElem?_cons_zero]; try rfl)
              case hq71 => exact fun _ _ _ h => h
              case hl71 => (simp only [List.setIfInBounds_toArray, List.set_cons_succ, List.set_cons_zero]; try rfl)
              case hw71 => rfl
              case hv71 =>
                intro W hW
                skip
                go_simp
                try with_reducible rfl
              case ha71 => (simp only [Act.put, List.setIfInBounds_toArray, List.set_cons_succ, List.set_cons_zero]; try rfl)
              refine wpAnyH_done (by kernel_rfl) ?_ _
              obtain rfl : kb = decide (0 < n2) := by rw [HKB.out]; unfold killsB; rw [← HN1.out, ← HN2.out, decide_eq_false hz, ← HFL.out]; rfl
              have hi2 : decide ((0 : Int) < n2) = decide (0 < n2) := decide_eq_decide.2 (by omega)
              try rw [hi2]
              go_wp2_with fail
              go_meet
              exact ⟨rfl, hid (HD3.out.on HSb.out)⟩
        case rest =>
          obtain ⟨rfl, HD4⟩ := hcut
          have HV4 := hid (HV.out.on HD4.out.be)
          clear HD3 HVV
          rcases kb with _ | _
          · go_upto_region 7 with fail
            go_cut [101] from 75 to 100 (fun u wx => u = .bool hb ∧ Hid (De w wx p m y))
            case first =>
              have HFA : Hid (∀ V, Below wc.heap.size wc V → V.cell? ⟨q, 0, none⟩ = some (ptr x) ∧ V.cell? ⟨w.heap.size, 12, none⟩ = some (.slice m.m.vp.a m.m.vp.n m.m.vp.c) ∧ V.cell? ⟨w.heap.size, 13, none⟩ = some (.bool fl) ∧ V.cell? ⟨p, 0, none⟩ = some (.int .i64 m.m.c.i) ∧ V.cell? ⟨p, 1, none⟩ = some (.int .i64 m.m.c.k) ∧ V.cell? ⟨p, 2, none⟩ = some (.int .i64 m.m.c.s) ∧ V.cell? ⟨p, 3, none⟩ = some (.int .i64 m.m.c.t) ∧ V.cell? ⟨p, 4, none⟩ = some (.int .i64 m.m.c.d) ∧ V.cell? ⟨p, 5, none⟩ = some (.int .i64 m.m.c.p) ∧ V.cell? ⟨p, 6, none⟩ = some (.int .i64 m.m.c.q)) := hid fun V hW => by
                have hd := HD4.out.on hW
                exact ⟨(HV4.out.on hW).cell0, hd.om.cell rfl, by rw [HFL.out]; exact hd.om.cell rfl, (cellAt' hd.oc 0).trans rfl, (cellAt' hd.oc 1).trans rfl, (cellAt' hd.oc 2).trans rfl, (cellAt' hd.oc 3).trans rfl, (cellAt' hd.oc 4).trans rfl, (cellAt' hd.oc 5).trans rfl, (cellAt' hd.oc 6).trans rfl⟩
              refine rh_start (S := fun V => Below wc.heap.size wc V) (n := 27) (listed := #[false, false, false, false, false, false, false, false, false, false, false, false, false, false, false, false, false, false, false, false, false, false, false, false, false, false, false]) (by kernel_rfl) rfl rfl ?_
              have HS0 : Hid (Below wc.heap.size wc wc.drew) := hid (belowDrew (Below.refl _ wc))
              generalize wc.drew = wd at HS0 ⊢
              refine rh_takeS (i := 0) (o := ?o73) (v := ?v73) (listed' := ?l73) (a' := ?a73) ?hi73 (by kernel_rfl) (by kernel_rfl) (by kernel_rfl) ?hq73 ?hl73 ?hw73 ?hv73 ?ha73 HS0.out ?hh73
              case hi73 => (simp only [List.getElem?_toArray, List.getElem?_cons_zero]; try rfl)
              case hq73 => exact fun _ _ _ h => h
              case hl73 => (simp only [List.setIfInBounds_toArray, List.set_cons_zero]; try rfl)
              case hw73 => rfl
              case hv73 =>
                intro W hW
                obtain ⟨k0, k2, k3, d0, d1, d2, d3, d4, d5, d6⟩ := HFA.out W hW
                go_simp
                try with_reducible rfl
              case ha73 => (simp only [Act.put, List.setIfInBounds_toArray, List.set_cons_succ, List.set_cons_zero]; try rfl)
              refine rh_takeS (i := 1) (o := ?o74) (v := ?v74) (listed' := ?l74) (a' := ?a74) ?hi74 (by kernel_rfl) (by kernel_rfl) (by kernel_rfl) ?hq74 ?hl74 ?hw74 ?hv74 ?ha74 HS0.out ?hh74
              case hi74 => (simp only [List.getElem?_toArray, List.getElem?_cons_succ, List.getElem?_cons_zero]; try rfl)
              case hq74 => exact fun _ _ _ h => h
              case hl74 => (simp only [List.setIfInBounds_toArray, List.set_cons_succ, List.set_cons_zero]; try rfl)
              case hw74 => rfl
              case hv74 =>
                intro W hW
                obtain ⟨k0, k2, k3, d0, d1, d2, d3, d4, d5, d6⟩ := HFA.out W hW
                go_simp
                try with_reducible rfl
              case ha74 => (simp only [Act.put, List.setIfInBounds_toArray, List.set_cons_succ, List.set_cons_zero]; try rfl)
              refine rh_takeS (i := 2) (o := ?o75) (v := ?v75) (listed' := ?l75) (a' := ?a75) ?hi75 (by kernel_rfl) (by kernel_rfl) (by kernel_rfl) ?hq75 ?hl75 ?hw75 ?hv75 ?ha75 HS0.out ?hh75
              case hi75 => (simp only [List.getElem?_toArray, List.getElem?_cons_succ, List.getElem?_cons_zero]; try rfl)
              case hq75 => exact fun _ _ _ h => h
              case hl75 => (simp only [List.setIfInBounds_toArray, List.set_cons_succ, List.set_cons_zero]; try rfl)
              case hw75 => rfl
              case hv75 =>
                intro W hW
                obtain ⟨k0, k2, k3, d0, d1, d2, d3, d4, d5, d6⟩ := HFA.out W hW
                go_simp
                try with_reducible rfl
              case ha75 => (simp only [Act.put, List.setIfInBounds_toArray, List.set_cons_succ, List.set_cons_zero]; try rfl)
              refine rh_takeS (i := 3) (o := ?o76) (v := ?v76) (listed' := ?l76) (a' := ?a76) ?hi76 (by kernel_rfl) (by kernel_rfl) (by kernel_rfl) ?hq76 ?hl76 ?hw76 ?hv76 ?ha76 HS0.out ?hh76
              case hi76 => (simp only [List.getElem?_toArray, List.getElem?_cons_succ, List.getElem?_cons_zero]; try rfl)
              case hq76 => exact fun _ _ _ h => h
              case hl76 => (simp only [List.setIfInBounds_toArray, List.set_cons_succ, List.set_cons_zero]; try rfl)
              case hw76 => rfl
              case hv76 =>
                intro W hW
                obtain ⟨k0, k2, k3, d0, d1, d2, d3, d4, d5, d6⟩ := HFA.out W hW
                go_simp
                try with_reducible rfl
              case ha76 => (simp only [Act.put, List.setIfInBounds_toArray, List.set_cons_succ, List.set_cons_zero]; try rfl)
              refine rh_takeS (i := 4) (o := ?o77) (v := ?v77) (listed' := ?l77) (a' := ?a77) ?hi77 (by kernel_rfl) (by kernel_rfl) (by kernel_rfl) ?hq77 ?hl77 ?hw77 ?hv77 ?ha77 HS0.out ?hh77
              case hi77 => (simp only [List.getElem?_toArray, List.getElem?_cons_succ, List.getElem?_cons_zero]; try rfl)
              case hq77 => exact fun _ _ _ h => h
              case hl77 => (simp only [List.setIfInBounds_toArray, List.set_cons_succ, List.set_cons_zero]; try rfl)
              case hw77 => rfl
              case hv77 =>
                intro W hW
                obtain ⟨k0, k2, k3, d0, d1, d2, d3, d4, d5, d6⟩ := HFA.out W hW
                go_simp
                try with_reducible rfl
              case ha77 => (simp only [Act.put, List.setIfInBounds_toArray, List.set_cons_succ, List.set_cons_zero]; try rfl)
              refine rh_takeS (i := 5) (o := ?o78) (v := ?v78) (listed' := ?l78) (a' := ?a78) ?hi78 (by kernel_rfl) (by kernel_rfl) (by kernel_rfl) ?hq78 ?hl78 ?hw78 ?hv78 ?ha78 HS0.out ?hh78
              case hi78 => (simp only [List.getElem?_toArray, List.getElem?_cons_succ, List.getElem?_cons_zero]; try rfl)
              case hq78 => exact fun _ _ _ h => h
              case hl78 => (simp only [List.setIfInBounds_toArray, List.set_cons_succ, List.set_cons_zero]; try rfl)
              case hw78 => rfl
              case hv78 =>
                intro W hW
                obtain ⟨k0, k2, k3, d0, d1, d2, d3, d4, d5, d6⟩ := HFA.out W hW
                go_simp
                try with_reducible rfl
              case ha78 => (simp only [Act.put, List.setIfInBounds_toArray, List.set_cons_succ, List.set_cons_zero]; try rfl)
              refine wpAnyH_ready (rs := [6]) (by kernel_rfl) (by simp) ?_
              refine rh_cons (i := 6) (o := ?o79) (listed' := ?l79) ?hi79 ?hl79 ?hg79 ?hh79 ?hs79
              case hi79 => (simp only [List.getElem?_toArray, List.getElem?_cons_succ, List.getElem?_cons_zero]; try rfl)
              case hl79 => (simp only [List.setIfInBounds_toArray, List.set_cons_succ, List.set_cons_zero]; try rfl)
              case hg79 => rfl
              case hs79 => exact AllReadyH.nil
              intro K hK
              go_simp
              refine (cHoldersV (HV4.out.on HS0.out) HN.out m.m.c m.m.vt).mono ?_
              rintro z wa ⟨g1, n1, c1, rfl, hn1, hB⟩
              have HSa := hid (HS0.out.trans (hB.mono HS0.out.size))
              have HN1 := hid hn1
              clear hB hn1
              refine hK.out _ _ HSa.out ?_
              clear hK K
              by_cases hz : 0 < n1
              · have hzz : ((0 : Int) < n1) := by omega
                refine rh_takeS (i := 7) (o := ?o80) (v := ?v80) (listed' := ?l80) (a' := ?a80) ?hi80 (by kernel_rfl) (by kernel_rfl) (by kernel_rfl) ?hq80 ?hl80 ?hw80 ?hv80 ?ha80 HSa.out ?hh80
                case hi80 => (simp only [List.getElem?_toArray, List.getElem?_cons_succ, List.getElem?_cons_zero]; try rfl)
                case hq80 => exact fun _ _ _ h => h
                case hl80 => (simp only [List.setIfInBounds_toArray, List.set_cons_succ, List.set_cons_zero]; try rfl)
                case hw80 => rfl
                case hv80 =>
                  intro W hW
                  skip
                  go_simp
                  try with_reducible rfl
                case ha80 => (simp only [Act.put, List.setIfInBounds_toArray, List.set_cons_succ, List.set_cons_zero]; try rfl)
                refine rh_takeS (i := 8) (o := ?o81) (v := ?v81) (listed' := ?l81) (a' := ?a81) ?hi81 (by kernel_rfl) (by kernel_rfl) (by kernel_rfl) ?hq81 ?hl81 ?hw81 ?hv81 ?ha81 HSa.out ?hh81
                case hi81 => (simp only [List.getElem?_toArray, List.getElem?_cons_succ, List.getElem?_cons_zero]; try rfl)
                case hq81 => exact fun _ _ _ h => h
                case hl81 => (simp only [List.setIfInBounds_toArray, List.set_cons_succ, List.set_cons_zero]; try rfl)
                case hw81 => rfl
                case hv81 =>
                  intro W hW
                  skip
                  go_simp
                  try with_reducible rfl
                case ha81 => (simp only [Act.put, List.setIfInBounds_toArray, List.set_cons_succ, List.set_cons_zero]; try rfl)
                skip
                refine rh_takeS (i := 9) (o := ?o82) (v := ?v82) (listed' := ?l82) (a' := ?a82) ?hi82 (by kernel_rfl) (by kernel_rfl) (by kernel_rfl) ?hq82 ?hl82 ?hw82 ?hv82 ?ha82 HSa.out ?hh82
                case hi82 => (simp only [List.getElem?_toArray, List.getElem?_cons_succ, List.getElem?_cons_zero]; try rfl)
                case hq82 => exact fun _ _ _ h => h
                case hl82 => (simp only [List.setIfInBounds_toArray, List.set_cons_succ, List.set_cons_zero]; try rfl)
                case hw82 => rfl
                case hv82 =>
                  intro W hW
                  skip
                  go_simp
                  try with_reducible rfl
                case ha82 => (simp only [Act.put, List.setIfInBounds_toArray, List.set_cons_succ, List.set_cons_zero]; try rfl)
                refine rh_skip (i := 10) (o := ?o83) (listed' := ?l83) (a' := ?a83) ?hi83 (by kernel_rfl) (by kernel_rfl) (by kernel_rfl) ?hq83 ?hl83 ?hw83 ?ha83 HSa.out ?hh83
                case hi83 => (simp only [List.getElem?_toArray, List.getElem?_cons_succ, List.getElem?_cons_zero]; try rfl)
                case hq83 => exact fun _ _ _ h => h
                case hl83 => (simp only [List.setIfInBounds_toArray, List.set_cons_succ, List.set_cons_zero]; try rfl)
                case hw83 => rfl
                case ha83 => (simp only [Act.put, List.setIfInBounds_toArray, List.set_cons_succ, List.set_cons_zero]; try rfl)
                refine rh_skip (i := 11) (o := ?o84) (listed' := ?l84) (a' := ?a84) ?hi84 (by kernel_rfl) (by kernel_rfl) (by kernel_rfl) ?hq84 ?hl84 ?hw84 ?ha84 HSa.out ?hh84
                case hi84 => (simp only [List.getElem?_toArray, List.getElem?_cons_succ, List.getElem?_cons_zero]; try rfl)
                case hq84 => exact fun _ _ _ h => h
                case hl84 => (simp only [List.setIfInBounds_toArray, List.set_cons_succ, List.set_cons_zero]; try rfl)
                case hw84 => rfl
                case ha84 => (simp only [Act.put, List.setIfInBounds_toArray, List.set_cons_succ, List.set_cons_zero]; try rfl)
                refine rh_skip (i := 12) (o := ?o85) (listed' := ?l85) (a' := ?a85) ?hi85 (by kernel_rfl) (by kernel_rfl) (by kernel_rfl) ?hq85 ?hl85 ?hw85 ?ha85 HSa.out ?hh85
                case hi85 => (simp only [List.getElem?_toArray, List.getElem?_cons_succ, List.getElem?_cons_zero]; try rfl)
                case hq85 => exact fun _ _ _ h => h
                case hl85 => (simp only [List.setIfInBounds_toArray, List.set_cons_succ, List.set_cons_zero]; try rfl)
                case hw85 => rfl
                case ha85 => (simp only [Act.put, List.setIfInBounds_toArray, List.set_cons_succ, List.set_cons_zero]; try rfl)
                refine rh_skip (i := 13) (o := ?o86) (listed' := ?l86) (a' := ?a86) ?hi86 (by kernel_rfl) (by kernel_rfl) (by kernel_rfl) ?hq86 ?hl86 ?hw86 ?ha86 HSa.out ?hh86
                case hi86 => (simp only [List.getElem?_toArray, List.getElem?_cons_succ, List.getElem?_cons_zero]; try rfl)
                case hq86 => exact fun _ _ _ h => h
                case hl86 => (simp only [List.setIfInBounds_toArray, List.set_cons_succ, List.set_cons_zero]; try rfl)
                case hw86 => rfl
                case ha86 => (simp only [Act.put, List.setIfInBounds_toArray, List.set_cons_succ, List.set_cons_zero]; try rfl)
                refine rh_skip (i := 14) (o := ?o87) (listed' := ?l87) (a' := ?a87) ?hi87 (by kernel_rfl) (by kernel_rfl) (by kernel_rfl) ?hq87 ?hl87 ?hw87 ?ha87 HSa.out ?hh87
                case hi87 => (simp only [List.getElem?_toArray, List.getElem?_cons_succ, List.getElem?_cons_zero]; try rfl)
                case hq87 => exact fun _ _ _ h => h
                case hl87 => (simp only [List.setIfInBounds_toArray, List.set_cons_succ, List.set_cons_zero]; try rfl)
                case hw87 => rfl
                case ha87 => (simp only [Act.put, List.setIfInBounds_toArray, List.set_cons_succ, List.set_cons_zero]; try rfl)
                refine rh_skip (i := 15) (o := ?o88) (listed' := ?l88) (a' := ?a88) ?hi88 (by kernel_rfl) (by kernel_rfl) (by kernel_rfl) ?hq88 ?hl88 ?hw88 ?ha88 HSa.out ?hh88
                case hi88 => (simp only [List.getElem?_toArray, List.getElem?_cons_succ, List.getElem?_cons_zero]; try rfl)
                case hq88 => exact fun _ _ _ h => h
                case hl88 => (simp only [List.setIfInBounds_toArray, List.set_cons_succ, List.set_cons_zero]; try rfl)
                case hw88 => rfl
                case ha88 => (simp only [Act.put, List.setIfInBounds_toArray, List.set_cons_succ, List.set_cons_zero]; try rfl)
                refine rh_skip (i := 16) (o := ?o89) (listed' := ?l89) (a' := ?a89) ?hi89 (by kernel_rfl) (by kernel_rfl) (by kernel_rfl) ?hq89 ?hl89 ?hw89 ?ha89 HSa.out ?hh89
                case hi89 => (simp only [List.getElem?_toArray, List.getElem?_cons_succ, List.getElem?_cons_zero]; try rfl)
                case hq89 => exact fun _ _ _ h => h
                case hl89 => (simp only [List.setIfInBounds_toArray, List.set_cons_succ, List.set_cons_zero]; try rfl)
                case hw89 => rfl
                case ha89 => (simp only [Act.put, List.setIfInBounds_toArray, List.set_cons_succ, List.set_cons_zero]; try rfl)
                refine rh_skip (i := 17) (o := ?o90) (listed' := ?l90) (a' := ?a90) ?hi90 (by kernel_rfl) (by kernel_rfl) (by kernel_rfl) ?hq90 ?hl90 ?hw90 ?ha90 HSa.out ?hh90
                case hi90 => (simp only [List.getElem?_toArray, List.getElem?_cons_succ, List.getElem?_cons_zero]; try rfl)
                case hq90 => exact fun _ _ _ h => h
                case hl90 => (simp only [List.setIfInBounds_toArray, List.set_cons_succ, List.set_cons_zero]; try rfl)
                case hw90 => rfl
                case ha90 => (simp only [Act.put, List.setIfInBounds_toArray, List.set_cons_succ, List.set_cons_zero]; try rfl)
                refine rh_skip (i := 18) (o := ?o91) (listed' := ?l91) (a' := ?a91) ?hi91 (by kernel_rfl) (by kernel_rfl) (by kernel_rfl) ?hq91 ?hl91 ?hw91 ?ha91 HSa.out ?hh91
                case hi91 => (simp only [List.getElem?_toArray, List.getElem?_cons_succ, List.getElem?_cons_zero]; try rfl)
                case hq91 => exact fun _ _ _ h => h
                case hl91 => (simp only [List.setIfInBounds_toArray, List.set_cons_succ, List.set_cons_zero]; try rfl)
                case hw91 => rfl
                case ha91 => (simp only [Act.put, List.setIfInBounds_toArray, List.set_cons_succ, List.set_cons_zero]; try rfl)
                refine rh_skip (i := 19) (o := ?o92) (listed' := ?l92) (a' := ?a92) ?hi92 (by kernel_rfl) (by kernel_rfl) (by kernel_rfl) ?hq92 ?hl92 ?hw92 ?ha92 HSa.out ?hh92
                case hi92 => (simp only [List.getElem?_toArray, List.getElem?_cons_succ, List.getElem?_cons_zero]; try rfl)
                case hq92 => exact fun _ _ _ h => h
                case hl92 => (simp only [List.setIfInBounds_toArray, List.set_cons_succ, List.set_cons_zero]; try rfl)
                case hw92 => rfl
                case ha92 => (simp only [Act.put, List.setIfInBounds_toArray, List.set_cons_succ, List.set_cons_zero]; try rfl)
                refine rh_skip (i := 20) (o := ?o93) (listed' := ?l93) (a' := ?a93) ?hi93 (by kernel_rfl) (by kernel_rfl) (by kernel_rfl) ?hq93 ?hl93 ?hw93 ?ha93 HSa.out ?hh93
                case hi93 => (simp only [List.getElem?_toArray, List.getElem?_cons_succ, List.getElem?_cons_zero]; try rfl)
                case hq93 => exact fun _ _ _ h => h
                case hl93 => (simp only [List.setIfInBounds_toArray, List.set_cons_succ, List.set_cons_zero]; try rfl)
                case hw93 => rfl
                case ha93 => (simp only [Act.put, List.setIfInBounds_toArray, List.set_cons_succ, List.set_cons_zero]; try rfl)
                refine rh_skip (i := 21) (o := ?o94) (listed' := ?l94) (a' := ?a94) ?hi94 (by kernel_rfl) (by kernel_rfl) (by kernel_rfl) ?hq94 ?hl94 ?hw94 ?ha94 HSa.out ?hh94
                case hi94 => (simp only [List.getElem?_toArray, List.getElem?_cons_succ, List.getElem?_cons_zero]; try rfl)
                case hq94 => exact fun _ _ _ h => h
                case hl94 => (simp only [List.setIfInBounds_toArray, List.set_cons_succ, List.set_cons_zero]; try rfl)
                case hw94 => rfl
                case ha94 => (simp only [Act.put, List.setIfInBounds_toArray, List.set_cons_succ, List.set_cons_zero]; try rfl)
                refine rh_skip (i := 22) (o := ?o95) (listed' := ?l95) (a' := ?a95) ?hi95 (by kernel_rfl) (by kernel_rfl) (by kernel_rfl) ?hq95 ?hl95 ?hw95 ?ha95 HSa.out ?hh95
                case hi95 => (simp only [List.getElem?_toArray, List.getElem?_cons_succ, List.getElem?_cons_zero]; try rfl)
                case hq95 => exact fun _ _ _ h => h
                case hl95 => (simp only [List.setIfInBounds_toArray, List.set_cons_succ, List.set_cons_zero]; try rfl)
                case hw95 => rfl
                case ha95 => (simp only [Act.put, List.setIfInBounds_toArray, List.set_cons_succ, List.set_cons_zero]; try rfl)
                refine rh_skip (i := 23) (o := ?o96) (listed' := ?l96) (a' := ?a96) ?hi96 (by kernel_rfl) (by kernel_rfl) (by kernel_rfl) ?hq96 ?hl96 ?hw96 ?ha96 HSa.out ?hh96
                case hi96 => (simp only [List.getElem?_toArray, List.getElem?_cons_succ, List.getElem?_cons_zero]; try rfl)
                case hq96 => exact fun _ _ _ h => h
                case hl96 => (simp only [List.setIfInBounds_toArray, List.set_cons_succ, List.set_cons_zero]; try rfl)
                case hw96 => rfl
                case ha96 => (simp only [Act.put, List.setIfInBounds_toArray, List.set_cons_succ, List.set_cons_zero]; try rfl)
                refine rh_skip (i := 24) (o := ?o97) (listed' := ?l97) (a' := ?a97) ?hi97 (by kernel_rfl) (by kernel_rfl) (by kernel_rfl) ?hq97 ?hl97 ?hw97 ?ha97 HSa.out ?hh97
                case hi97 => (simp only [List.getElem?_toArray, List.getElem?_cons_succ, List.getElem?_cons_zero]; try rfl)
                case hq97 => exact fun _ _ _ h => h
                case hl97 => (simp only [List.setIfInBounds_toArray, List.set_cons_succ, List.set_cons_zero]; try rfl)
                case hw97 => rfl
                case ha97 => (simp only [Act.put, List.setIfInBounds_toArray, List.set_cons_succ, List.set_cons_zero]; try rfl)
                refine rh_skip (i := 25) (o := ?o98) (listed' := ?l98) (a' := ?a98) ?hi98 (by kernel_rfl) (by kernel_rfl) (by kernel_rfl) ?hq98 ?hl98 ?hw98 ?ha98 HSa.out ?hh98
                case hi98 => (simp only [List.getElem?_toArray, List.getElem?_cons_succ, List.getElem?_cons_zero]; try rfl)
                case hq98 => exact fun _ _ _ h => h
                case hl98 => (simp only [List.setIfInBounds_toArray, List.set_cons_succ, List.set_cons_zero]; try rfl)
                case hw98 => rfl
                case ha98 => (simp only [Act.put, List.setIfInBounds_toArray, List.set_cons_succ, List.set_cons_zero]; try rfl)
                refine rh_takeS (i := 26) (o := ?o99) (v := ?v99) (listed' := ?l99) (a' := ?a99) ?hi99 (by kernel_rfl) (by kernel_rfl) (by kernel_rfl) ?hq99 ?hl99 ?hw99 ?hv99 ?ha99 HSa.out ?hh99
                case hi99 => (simp only [List.getElem?_toArray, List.getElem?_cons_succ, List.getElem?_cons_zero]; try rfl)
                case hq99 => exact fun _ _ _ h => h
                case hl99 => (simp only [List.setIfInBounds_toArray, List.set_cons_succ, List.set_cons_zero]; try rfl)
                case hw99 => rfl
                case hv99 =>
                  intro W hW
                  skip
                  go_simp
                  try with_reducible rfl
                case ha99 => (simp only [Act.put, List.setIfInBounds_toArray, List.set_cons_succ, List.set_cons_zero]; try rfl)
                refine wpAnyH_done (by kernel_rfl) ?_ _
                obtain rfl : hb = true := by rw [HHB.out]; unfold holdB; rw [← HN1.out, decide_eq_true hz]; rfl
                go_wp2_with fail
                go_meet
                exact ⟨rfl, hid (HD4.out.on HSa.out)⟩
              · have hzz : ¬ ((0 : Int) < n1) := by omega
                refine rh_takeS (i := 7) (o := ?o100) (v := ?v100) (listed' := ?l100) (a' := ?a100) ?hi100 (by kernel_rfl) (by kernel_rfl) (by kernel_rfl) ?hq100 ?hl100 ?hw100 ?hv100 ?ha100 HSa.out ?hh100
                case hi100 => (simp only [List.getElem?_toArray, List.getElem?_cons_succ, List.getElem?_cons_zero]; try rfl)
                case hq100 => exact fun _ _ _ h => h
                case hl100 => (simp only [List.setIfInBounds_toArray, List.set_cons_succ, List.set_cons_zero]; try rfl)
                case hw100 => rfl
                case hv100 =>
                  intro W hW
                  skip
                  go_simp
                  try with_reducible rfl
                case ha100 => (simp only [Act.put, List.setIfInBounds_toArray, List.set_cons_succ, List.set_cons_zero]; try rfl)
                refine rh_takeS (i := 8) (o := ?o101) (v := ?v101) (listed' := ?l101) (a' := ?a101) ?hi101 (by kernel_rfl) (by kernel_rfl) (by kernel_rfl) ?hq101 ?hl101 ?hw101 ?hv101 ?ha101 HSa.out ?hh101
                case hi101 => (simp only [List.getElem?_toArray, List.getElem?_cons_succ, List.getElem?_cons_zero]; try rfl)
                case hq101 => exact fun _ _ _ h => h
                case hl101 => (simp only [List.setIfInBounds_toArray, List.set_cons_succ, List.set_cons_zero]; try rfl)
                case hw101 => rfl
                case hv101 =>
                  intro W hW
                  skip
                  go_simp
                  try with_reducible rfl
                case ha101 => (simp only [Act.put, List.setIfInBounds_toArray, List.set_cons_succ, List.set_cons_zero]; try rfl)
                refine rh_takeS (i := 9) (o := ?o102) (v := ?v102) (listed' := ?l102) (a' := ?a102) ?hi102 (by kernel_rfl) (by kernel_rfl) (by kernel_rfl) ?hq102 ?hl102 ?hw102 ?hv102 ?ha102 HSa.out ?hh102
                case hi102 => (simp only [List.getElem?_toArray, List.getElem?_cons_succ, List.getElem?_cons_zero]; try rfl)
                case hq102 => exact fun _ _ _ h => h
                case hl102 => (simp only [List.setIfInBounds_toArray, List.set_cons_succ, List.set_cons_zero]; try rfl)
                case hw102 => rfl
                case hv102 =>
                  intro W hW
                  skip
                  go_simp
                  try with_reducible rfl
                case ha102 => (simp only [Act.put, List.setIfInBounds_toArray, List.set_cons_succ, List.set_cons_zero]; try rfl)
                refine rh_takeS (i := 10) (o := ?o103) (v := ?v103) (listed' := ?l103) (a' := ?a103) ?hi103 (by kernel_rfl) (by kernel_rfl) (by kernel_rfl) ?hq103 ?hl103 ?hw103 ?hv103 ?ha103 HSa.out ?hh103
                case hi103 => (simp only [List.getElem?_toArray, List.getElem?_cons_succ, List.getElem?_cons_zero]; try rfl)
                case hq103 => exact fun _ _ _ h => h
                case hl103 => (simp only [List.setIfInBounds_toArray, List.set_cons_succ, List.set_cons_zero]; try rfl)
                case hw103 => rfl
                case hv103 =>
                  intro W hW
                  obtain ⟨k0, k2, k3, d0, d1, d2, d3, d4, d5, d6⟩ := HFA.out W hW
                  go_simp
                  try with_reducible rfl
                case ha103 => (simp only [Act.put, List.setIfInBounds_toArray, List.set_cons_succ, List.set_cons_zero]; try rfl)
                refine rh_takeS (i := 11) (o := ?o104) (v := ?v104) (listed' := ?l104) (a' := ?a104) ?hi104 (by kernel_rfl) (by kernel_rfl) (by kernel_rfl) ?hq104 ?hl104 ?hw104 ?hv104 ?ha104 HSa.out ?hh104
                case hi104 => (simp only [List.getElem?_toArray, List.getElem?_cons_succ, List.getElem?_cons_zero]; try rfl)
                case hq104 => exact fun _ _ _ h => h
                case hl104 => (simp only [List.setIfInBounds_toArray, List.set_cons_succ, List.set_cons_zero]; try rfl)
                case hw104 => rfl
                case hv104 =>
                  intro W hW
                  obtain ⟨k0, k2, k3, d0, d1, d2, d3, d4, d5, d6⟩ := HFA.out W hW
                  go_simp
                  try with_reducible rfl
                case ha104 => (simp only [Act.put, List.setIfInBounds_toArray, List.set_cons_succ, List.set_cons_zero]; try rfl)
                refine rh_takeS (i := 12) (o := ?o105) (v := ?v105) (listed' := ?l105) (a' := ?a105) ?hi105 (by kernel_rfl) (by kernel_rfl) (by kernel_rfl) ?hq105 ?hl105 ?hw105 ?hv105 ?ha105 HSa.out ?hh105
                case hi105 => (simp only [List.getElem?_toArray, List.getElem?_cons_succ, List.getElem?_cons_zero]; try rfl)
                case hq105 => exact fun _ _ _ h => h
                case hl105 => (simp only [List.setIfInBounds_toArray, List.set_cons_succ, List.set_cons_zero]; try rfl)
                case hw105 => rfl
                case hv105 =>
                  intro W hW
                  obtain ⟨k0, k2, k3, d0, d1, d2, d3, d4, d5, d6⟩ := HFA.out W hW
                  go_simp
                  try with_reducible rfl
                case ha105 => (simp only [Act.put, List.setIfInBounds_toArray, List.set_cons_succ, List.set_cons_zero]; try rfl)
                rcases fl with _ | _
                · refine rh_skip (i := 13) (o := ?o106) (listed' := ?l106) (a' := ?a106) ?hi106 (by kernel_rfl) (by kernel_rfl) (by kernel_rfl) ?hq106 ?hl106 ?hw106 ?ha106 HSa.out ?hh106
                  case hi106 => (simp only [List.getElem?_toArray, List.getElem?_cons_succ, List.getElem?_cons_zero]; try rfl)
                  case hq106 => exact fun _ _ _ h => h
                  case hl106 => (simp only [List.setIfInBounds_toArray, List.set_cons_succ, List.set_cons_zero]; try rfl)
                  case hw106 => rfl
                  case ha106 => (simp only [Act.put, List.setIfInBounds_toArray, List.set_cons_succ, List.set_cons_zero]; try rfl)
                  refine rh_skip (i := 14) (o := ?o107) (listed' := ?l107) (a' := ?a107) ?hi107 (by kernel_rfl) (by kernel_rfl) (by kernel_rfl) ?hq107 ?hl107 ?hw107 ?ha107 HSa.out ?hh107
                  case hi107 => (simp only [List.getElem?_toArray, List.getElem?_cons_succ, List.getElem?_cons_zero]; try rfl)
                  case hq107 => exact fun _ _ _ h => h
                  case hl107 => (simp only [List.setIfInBounds_toArray, List.set_cons_succ, List.set_cons_zero]; try rfl)
                  case hw107 => rfl
                  case ha107 => (simp only [Act.put, List.setIfInBounds_toArray, List.set_cons_succ, List.set_cons_zero]; try rfl)
                  refine rh_skip (i := 15) (o := ?o108) (listed' := ?l108) (a' := ?a108) ?hi108 (by kernel_rfl) (by kernel_rfl) (by kernel_rfl) ?hq108 ?hl108 ?hw108 ?ha108 HSa.out ?hh108
                  case hi108 => (simp only [List.getElem?_toArray, List.getElem?_cons_succ, List.getElem?_cons_zero]; try rfl)
                  case hq108 => exact fun _ _ _ h => h
                  case hl108 => (simp only [List.setIfInBounds_toArray, List.set_cons_succ, List.set_cons_zero]; try rfl)
                  case hw108 => rfl
                  case ha108 => (simp only [Act.put, List.setIfInBounds_toArray, List.set_cons_succ, List.set_cons_zero]; try rfl)
                  refine rh_skip (i := 16) (o := ?o109) (listed' := ?l109) (a' := ?a109) ?hi109 (by kernel_rfl) (by kernel_rfl) (by kernel_rfl) ?hq109 ?hl109 ?hw109 ?ha109 HSa.out ?hh109
                  case hi109 => (simp only [List.getElem?_toArray, List.getElem?_cons_succ, List.getElem?_cons_zero]; try rfl)
                  case hq109 => exact fun _ _ _ h => h
                  case hl109 => (simp only [List.setIfInBounds_toArray, List.set_cons_succ, List.set_cons_zero]; try rfl)
                  case hw109 => rfl
                  case ha109 => (simp only [Act.put, List.setIfInBounds_toArray, List.set_cons_succ, List.set_cons_zero]; try rfl)
                  refine rh_skip (i := 17) (o := ?o110) (listed' := ?l110) (a' := ?a110) ?hi110 (by kernel_rfl) (by kernel_rfl) (by kernel_rfl) ?hq110 ?hl110 ?hw110 ?ha110 HSa.out ?hh110
                  case hi110 => (simp only [List.getElem?_toArray, List.getElem?_cons_succ, List.getElem?_cons_zero]; try rfl)
                  case hq110 => exact fun _ _ _ h => h
                  case hl110 => (simp only [List.setIfInBounds_toArray, List.set_cons_succ, List.set_cons_zero]; try rfl)
                  case hw110 => rfl
                  case ha110 => (simp only [Act.put, List.setIfInBounds_toArray, List.set_cons_succ, List.set_cons_zero]; try rfl)
                  refine rh_skip (i := 18) (o := ?o111) (listed' := ?l111) (a' := ?a111) ?hi111 (by kernel_rfl) (by kernel_rfl) (by kernel_rfl) ?hq111 ?hl111 ?hw111 ?ha111 HSa.out ?hh111
                  case hi111 => (simp only [List.getElem?_toArray, List.getElem?_cons_succ, List.getElem?_cons_zero]; try rfl)
                  case hq111 => exact fun _ _ _ h => h
                  case hl111 => (simp only [List.setIfInBounds_toArray, List.set_cons_succ, List.set_cons_zero]; try rfl)
                  case hw111 => rfl
                  case ha111 => (simp only [Act.put, List.setIfInBounds_toArray, List.set_cons_succ, List.set_cons_zero]; try rfl)
                  refine rh_skip (i := 19) (o := ?o112) (listed' := ?l112) (a' := ?a112) ?hi112 (by kernel_rfl) (by kernel_rfl) (by kernel_rfl) ?hq112 ?hl112 ?hw112 ?ha112 HSa.out ?hh112
                  case hi112 => (simp only [List.getElem?_toArray, List.getElem?_cons_succ, List.getElem?_cons_zero]; try rfl)
                  case hq112 => exact fun _ _ _ h => h
                  case hl112 => (simp only [List.setIfInBounds_toArray, List.set_cons_succ, List.set_cons_zero]; try rfl)
                  case hw112 => rfl
                  case ha112 => (simp only [Act.put, List.setIfInBounds_toArray, List.set_cons_succ, List.set_cons_zero]; try rfl)
                  refine rh_skip (i := 20) (o := ?o113) (listed' := ?l113) (a' := ?a113) ?hi113 (by kernel_rfl) (by kernel_rfl) (by kernel_rfl) ?hq113 ?hl113 ?hw113 ?ha113 HSa.out ?hh113
                  case hi113 => (simp only [List.getElem?_toArray, List.getElem?_cons_succ, List.getElem?_cons_zero]; try rfl)
                  case hq113 => exact fun _ _ _ h => h
                  case hl113 => (simp only [List.setIfInBounds_toArray, List.set_cons_succ, List.set_cons_zero]; try rfl)
                  case hw113 => rfl
                  case ha113 => (simp only [Act.put, List.setIfInBounds_toArray, List.set_cons_succ, List.set_cons_zero]; try rfl)
                  refine rh_skip (i := 21) (o := ?o114) (listed' := ?l114) (a' := ?a114) ?hi114 (by kernel_rfl) (by kernel_rfl) (by kernel_rfl) ?hq114 ?hl114 ?hw114 ?ha114 HSa.out ?hh114
                  case hi114 => (simp only [List.getElem?_toArray, List.getElem?_cons_succ, List.getElem?_cons_zero]; try rfl)
                  case hq114 => exact fun _ _ _ h => h
                  case hl114 => (simp only [List.setIfInBounds_toArray, List.set_cons_succ, List.set_cons_zero]; try rfl)
                  case hw114 => rfl
                  case ha114 => (simp only [Act.put, List.setIfInBounds_toArray, List.set_cons_succ, List.set_cons_zero]; try rfl)
                  refine rh_skip (i := 22) (o := ?o115) (listed' := ?l115) (a' := ?a115) ?hi115 (by kernel_rfl) (by kernel_rfl) (by kernel_rfl) ?hq115 ?hl115 ?hw115 ?ha115 HSa.out ?hh115
                  case hi115 => (simp only [List.getElem?_toArray, List.getElem?_cons_succ, List.getElem?_cons_zero]; try rfl)
                  case hq115 => exact fun _ _ _ h => h
                  case hl115 => (simp only [List.setIfInBounds_toArray, List.set_cons_succ, List.set_cons_zero]; try rfl)
                  case hw115 => rfl
                  case ha115 => (simp only [Act.put, List.setIfInBounds_toArray, List.set_cons_succ, List.set_cons_zero]; try rfl)
                  refine rh_skip (i := 23) (o := ?o116) (listed' := ?l116) (a' := ?a116) ?hi116 (by kernel_rfl) (by kernel_rfl) (by kernel_rfl) ?hq116 ?hl116 ?hw116 ?ha116 HSa.out ?hh116
                  case hi116 => (simp only [List.getElem?_toArray, List.getElem?_cons_succ, List.getElem?_cons_zero]; try rfl)
                  case hq116 => exact fun _ _ _ h => h
                  case hl116 => (simp only [List.setIfInBounds_toArray, List.set_cons_succ, List.set_cons_zero]; try rfl)
                  case hw116 => rfl
                  case ha116 => (simp only [Act.put, List.setIfInBounds_toArray, List.set_cons_succ, List.set_cons_zero]; try rfl)
                  refine rh_skip (i := 24) (o := ?o117) (listed' := ?l117) (a' := ?a117) ?hi117 (by kernel_rfl) (by kernel_rfl) (by kernel_rfl) ?hq117 ?hl117 ?hw117 ?ha117 HSa.out ?hh117
                  case hi117 => (simp only [List.getElem?_toArray, List.getElem?_cons_succ, List.getElem?_cons_zero]; try rfl)
                  case hq117 => exact fun _ _ _ h => h
                  case hl117 => (simp only [List.setIfInBounds_toArray, List.set_cons_succ, List.set_cons_zero]; try rfl)
                  case hw117 => rfl
                  case ha117 => (simp only [Act.put, List.setIfInBounds_toArray, List.set_cons_succ, List.set_cons_zero]; try rfl)
                  refine rh_takeS (i := 25) (o := ?o118) (v := ?v118) (listed' := ?l118) (a' := ?a118) ?hi118 (by kernel_rfl) (by kernel_rfl) (by kernel_rfl) ?hq118 ?hl118 ?hw118 ?hv118 ?ha118 HSa.out ?hh118
                  case hi118 => (simp only [List.getElem?_toArray, List.getElem?_cons_succ, List.getElem?_cons_zero]; try rfl)
                  case hq118 => exact fun _ _ _ h => h
                  case hl118 => (simp only [List.setIfInBounds_toArray, List.set_cons_succ, List.set_cons_zero]; try rfl)
                  case hw118 => rfl
                  case hv118 =>
                    intro W hW
                    skip
                    go_simp
                    try with_reducible rfl
                  case ha118 => (simp only [Act.put, List.setIfInBounds_toArray, List.set_cons_succ, List.set_cons_zero]; try rfl)
                  refine rh_takeS (i := 26) (o := ?o119) (v := ?v119) (listed' := ?l119) (a' := ?a119) ?hi119 (by kernel_rfl) (by kernel_rfl) (by kernel_rfl) ?hq119 ?hl119 ?hw119 ?hv119 ?ha119 HSa.out ?hh119
                  case hi119 => (simp only [List.getElem?_toArray, List.getElem?_cons_succ, List.getElem?_cons_zero]; try rfl)
                  case hq119 => exact fun _ _ _ h => h
                  case hl119 => (simp only [List.setIfInBounds_toArray, List.set_cons_succ, List.set_cons_zero]; try rfl)
                  case hw119 => rfl
                  case hv119 =>
                    intro W hW
                    skip
                    go_simp
                    try with_reducible rfl
                  case ha119 => (simp only [Act.put, List.setIfInBounds_toArray, List.set_cons_succ, List.set_cons_zero]; try rfl)
                  refine wpAnyH_done (by kernel_rfl) ?_ _
                  obtain rfl : hb = false := by rw [HHB.out]; unfold holdB; rw [← HN1.out, decide_eq_false hz, ← HFL.out]; rfl
                  go_wp2_with fail
                  go_meet
                  exact ⟨rfl, hid (HD4.out.on HSa.out)⟩
                · refine rh_takeS (i := 13) (o := ?o120) (v := ?v120) (listed' := ?l120) (a' := ?a120) ?hi120 (by kernel_rfl) (by kernel_rfl) (by kernel_rfl) ?hq120 ?hl120 ?hw120 ?hv120 ?ha120 HSa.out ?hh120
                  case hi120 => (simp only [List.getElem?_toArray, List.getElem?_cons_succ, List.getElem?_cons_zero]; try rfl)
                  case hq120 => exact fun _ _ _ h => h
                  case hl120 => (simp only [List.setIfInBounds_toArray, List.set_cons_succ, List.set_cons_zero]; try rfl)
                  case hw120 => rfl
                  case hv120 =>
                    intro W hW
                    obtain ⟨k0, k2, k3, d0, d1, d2, d3, d4, d5, d6⟩ := HFA.out W hW
                    go_simp
                    try with_reducible rfl
                  case ha120 => (simp only [Act.put, List.setIfInBounds_toArray, List.set_cons_succ, List.set_cons_zero]; try rfl)
                  refine rh_takeS (i := 14) (o := ?o121) (v := ?v121) (listed' := ?l121) (a' := ?a121) ?hi121 (by kernel_rfl) (by kernel_rfl) (by kernel_rfl) ?hq121 ?hl121 ?hw121 ?hv121 ?ha121 HSa.out ?hh121
                  case hi121 => (simp only [List.getElem?_toArray, List.getElem?_cons_succ, List.getElem?_cons_zero]; try rfl)
                  case hq121 => exact fun _ _ _ h => h
                  case hl121 => (simp only [List.setIfInBounds_toArray, List.set_cons_succ, List.set_cons_zero]; try rfl)
                  case hw121 => rfl
                  case hv121 =>
                    intro W hW
                    obtain ⟨k0, k2, k3, d0, d1, d2, d3, d4, d5, d6⟩ := HFA.out W hW
                    go_simp
                    try with_reducible rfl
                  case ha121 => (simp only [Act.put, List.setIfInBounds_toArray, List.set_cons_succ, List.set_cons_zero]; try rfl)
                  refine rh_takeS (i := 15) (o := ?o122) (v := ?v122) (listed' := ?l122) (a' := ?a122) ?hi122 (by kernel_rfl) (by kernel_rfl) (by kernel_rfl) ?hq122 ?hl122 ?hw122 ?hv122 ?ha122 HSa.out ?hh122
                  case hi122 => (simp only [List.getElem?_toArray, List.getElem?_cons_succ, List.getElem?_cons_zero]; try rfl)
                  case hq122 => exact fun _ _ _ h => h
                  case hl122 => (simp only [List.setIfInBounds_toArray, List.set_cons_succ, List.set_cons_zero]; try rfl)
                  case hw122 => rfl
                  case hv122 =>
                    intro W hW
                    obtain ⟨k0, k2, k3, d0, d1, d2, d3, d4, d5, d6⟩ := HFA.out W hW
                    go_simp
                    try with_reducible rfl
                  case ha122 => (simp only [Act.put, List.setIfInBounds_toArray, List.set_cons_succ, List.set_cons_zero]; try rfl)
                  refine rh_takeS (i := 16) (o := ?o123) (v := ?v123) (listed' := ?l123) (a' := ?a123) ?hi123 (by kernel_rfl) (by kernel_rfl) (by kernel_rfl) ?hq123 ?hl123 ?hw123 ?hv123 ?ha123 HSa.out ?hh123
                  case hi123 => (simp only [List.getElem?_toArray, List.getElem?_cons_succ, List.getElem?_cons_zero]; try rfl)
                  case hq123 => exact fun _ _ _ h => h
                  case hl123 => (simp only [List.setIfInBounds_toArray, List.set_cons_succ, List.set_cons_zero]; try rfl)
                  case hw123 => rfl
                  case hv123 =>
                    intro W hW
                    obtain ⟨k0, k2, k3, d0, d1, d2, d3, d4, d5, d6⟩ := HFA.out W hW
                    go_simp
                    try with_reducible rfl
                  case ha123 => (simp only [Act.put, List.setIfInBounds_toArray, List.set_cons_succ, List.set_cons_zero]; try rfl)
                  refine rh_takeS (i := 17) (o := ?o124) (v := ?v124) (listed' := ?l124) (a' := ?a124) ?hi124 (by kernel_rfl) (by kernel_rfl) (by kernel_rfl) ?hq124 ?hl124 ?hw124 ?hv124 ?ha124 HSa.out ?hh124
                  case hi124 => (simp only [List.getElem?_toArray, List.getElem?_cons_succ, List.getElem?_cons_zero]; try rfl)
                  case hq124 => exact fun _ _ _ h => h
                  case hl124 => (simp only [List.setIfInBounds_toArray, List.set_cons_succ, List.set_cons_zero]; try rfl)
                  case hw124 => rfl
                  case hv124 =>
                    intro W hW
                    obtain ⟨k0, k2, k3, d0, d1, d2, d3, d4, d5, d6⟩ := HFA.out W hW
                    go_simp
                    try with_reducible rfl
                  case ha124 => (simp only [Act.put, List.setIfInBounds_toArray, List.set_cons_succ, List.set_cons_zero]; try rfl)
                  refine rh_takeS (i := 18) (o := ?o125) (v := ?v125) (listed' := ?l125) (a' := ?a125) ?hi125 (by kernel_rfl) (by kernel_rfl) (by kernel_rfl) ?hq125 ?hl125 ?hw125 ?hv125 ?ha125 HSa.out ?hh125
                  case hi125 => (simp only [List.getElem?_toArray, List.getElem?_cons_succ, List.getElem?_cons_zero]; try rfl)
                  case hq125 => exact fun _ _ _ h => h
                  case hl125 => (simp only [List.setIfInBounds_toArray, List.set_cons_succ, List.set_cons_zero]; try rfl)
                  case hw125 => rfl
                  case hv125 =>
                    intro W hW
                    obtain ⟨k0, k2, k3, d0, d1, d2, d3, d4, d5, d6⟩ := HFA.out W hW
                    go_simp
                    try with_reducible rfl
                  case ha125 => (simp only [Act.put, List.setIfInBounds_toArray, List.set_cons_succ, List.set_cons_zero]; try rfl)
                  refine rh_takeS (i := 19) (o := ?o126) (v := ?v126) (listed' := ?l126) (a' := ?a126) ?hi126 (by kernel_rfl) (by kernel_rfl) (by kernel_rfl) ?hq126 ?hl126 ?hw126 ?hv126 ?ha126 HSa.out ?hh126
                  case hi126 => (simp only [List.getElem?_toArray, List.getElem?_cons_succ, List.getElem?_cons_zero]; try rfl)
                  case hq126 => exact fun _ _ _ h => h
                  case hl126 => (simp only [List.setIfInBounds_toArray, List.set_cons_succ, List.set_cons_zero]; try rfl)
                  case hw126 => rfl
                  case hv126 =>
                    intro W hW
                    obtain ⟨k0, k2, k3, d0, d1, d2, d3, d4, d5, d6⟩ := HFA.out W hW
                    go_simp
                    try with_reducible rfl
                  case ha126 => (simp only [Act.put, List.setIfInBounds_toArray, List.set_cons_succ, List.set_cons_zero]; try rfl)
                  refine rh_takeS (i := 20) (o := ?o127) (v := ?v127) (listed' := ?l127) (a' := ?a127) ?hi127 (by kernel_rfl) (by kernel_rfl) (by kernel_rfl) ?hq127 ?hl127 ?hw127 ?hv127 ?ha127 HSa.out ?hh127
                  case hi127 => (simp only [List.getElem?_toArray, List.getElem?_cons_succ, List.getElem?_cons_zero]; try rfl)
                  case hq127 => exact fun _ _ _ h => h
                  case hl127 => (simp only [List.setIfInBounds_toArray, List.set_cons_succ, List.set_cons_zero]; try rfl)
                  case hw127 => rfl
                  case hv127 =>
                    intro W hW
                    obtain ⟨k0, k2, k3, d0, d1, d2, d3, d4, d5, d6⟩ := HFA.out W hW
                    go_simp
                    try with_reducible rfl
                  case ha127 => (simp only [Act.put, List.setIfInBounds_toArray, List.set_cons_succ, List.set_cons_zero]; try rfl)
                  refine rh_takeS (i := 21) (o := ?o128) (v := ?v128) (listed' := ?l128) (a' := ?a128) ?hi128 (by kernel_rfl) (by kernel_rfl) (by kernel_rfl) ?hq128 ?hl128 ?hw128 ?hv128 ?ha128 HSa.out ?hh128
                  case hi128 => (simp only [List.getElem?_toArray, List.getElem?_cons_succ, List.getElem?_cons_zero]; try rfl)
                  case hq128 => exact fun _ _ _ h => h
                  case hl128 => (simp only [List.setIfInBounds_toArray, List.set_cons_succ, List.set_cons_zero]; try rfl)
                  case hw128 => rfl
                  case hv128 =>
                    intro W hW
                    obtain ⟨k0, k2, k3, d0, d1, d2, d3, d4, d5, d6⟩ := HFA.out W hW
                    go_simp
                    try with_reducible rfl
                  case ha128 => (simp only [Act.put, List.setIfInBounds_toArray, List.set_cons_succ, List.set_cons_zero]; try rfl)
                  refine wpAnyH_ready (rs := [22]) (by kernel_rfl) (by simp) ?_
                  refine rh_consW (i := 22) (o := ?o129) (listed' := ?l129) ?hi129 ?hl129 ?hg129 ?hh129 ?hs129
                  case hi129 => (simp only [List.getElem?_toArray, List.getElem?_cons_succ, List.getElem?_cons_zero]; try rfl)
                  case hl129 => (simp only [List.setIfInBounds_toArray, List.set_cons_succ, List.set_cons_zero]; try rfl)
                  case hg129 => rfl
                  case hs129 => exact AllReadyH.nil
                  intro K hK
                  go_simp
                  refine (cAbsentV (HV4.out.on HSa.out) HN.out m.m.c m.m.vt (p := m.m.vp) (HMA.out.1.on (HD4.out.be.trans (HSa.out.mono HD4.out.be.size))) HMS.out.1 false).mono ?_
                  rintro z wb2 ⟨g2, n2, c2, rfl, hn2, hB⟩
                  have HSb := hid (HSa.out.trans (hB.mono HSa.out.size))
                  have HN2 := hid hn2
                  clear hB hn2
                  refine hK.out _ _ HSb.out ?_
                  clear hK K
                  refine rh_takeS (i := 23) (o := ?o130) (v := ?v130) (listed' := ?l130) (a' := ?a130) ?hi130 (by kernel_rfl) (by kernel_rfl) (by kernel_rfl) ?hq130 ?hl130 ?hw130 ?hv130 ?ha130 HSb.out ?hh130
                  case hi130 => (simp only [List.getElem?_toArray, List.getElem?_cons_succ, List.getElem?_cons_zero]; try rfl)
                  case hq130 => exact fun _ _ _ h => h
                  case hl130 => (simp only [List.setIfInBounds_toArray, List.set_cons_succ, List.set_cons_zero]; try rfl)
                  case hw130 => rfl
                  case hv130 =>
                    intro W hW
                    skip
                    go_simp
                    try with_reducible rfl
                  case ha130 => (simp only [Act.put, List.setIfInBounds_toArray, List.set_cons_succ, List.set_cons_zero]; try rfl)
                  refine rh_takeS (i := 24) (o := ?o131) (v := ?v131) (listed' := ?l131) (a' := ?a131) ?hi131 (by kernel_rfl) (by kernel_rfl) (by kernel_rfl) ?hq131 ?hl131 ?hw131 ?hv131 ?ha131 HSb.out ?hh131
                  case hi131 => (simp only [List.getElem?_toArray, List.getElem?_cons_succ, List.getElem?_cons_zero]; try rfl)
                  case hq131 => exact fun _ _ _ h => h
                  case hl131 => (simp only [List.setIfInBounds_toArray, List.set_cons_succ, List.set_cons_zero]; try rfl)
                  case hw131 => rfl
                  case hv131 =>
                    intro W hW
                    skip
                    go_simp
                    try with_reducible rfl
                  case ha131 => (simp only [Act.put, List.setIfInBounds_toArray, List.set_cons_succ, List.set_cons_zero]; try rfl)
                  refine rh_takeS (i := 25) (o := ?o132) (v := ?v132) (listed' := ?l132) (a' := ?a132) ?hi132 (by kernel_rfl) (by kernel_rfl) (by kernel_rfl) ?hq132 ?hl132 ?hw132 ?hv132 ?ha132 HSb.out ?hh132
                  case hi132 => (simp only [List.getElem?_toArray, List.getElem?_cons_succ, List.getElem?_cons_zero]; try rfl)
                  case hq132 => exact fun _ _ _ h => h
                  case hl132 => (simp only [List.setIfInBounds_toArray, List.set_cons_succ, List.set_cons_zero]; try rfl)
                  case hw132 => rfl
                  case hv132 =>
                    intro W hW
                    skip
                    go_simp
                    try with_reducible rfl
                  case ha132 => (simp only [Act.put, List.setIfInBounds_toArray, List.set_cons_succ, List.set_cons_zero]; try rfl)
                  refine rh_takeS (i := 26) (o := ?o133) (v := ?v133) (listed' := ?l133) (a' := ?a133) ?hi133 (by kernel_rfl) (by kernel_rfl) (by kernel_rfl) ?hq133 ?hl133 ?hw133 ?hv133 ?ha133 HSb.out ?hh133
                  case hi133 => (simp only [List.getElem?_toArray, List.getElem?_cons_succ, List.getElem?_cons_zero]; try rfl)
                  case hq133 => exact fun _ _ _ h => h
                  case hl133 => (simp only [List.setIfInBounds_toArray, List.set_cons_succ, List.set_cons_zero]; try rfl)
                  case hw133 => rfl
                  case hv133 =>
                    intro W hW
                    skip
                    go_simp
                    try with_reducible rfl
                  case ha133 => (simp only [Act.put, List.setIfInBounds_toArray, List.set_cons_succ, List.set_cons_zero]; try rfl)
                  refine wpAnyH_done (by kernel_rfl) ?_ _
                  obtain rfl : hb = decide (0 < n2) := by rw [HHB.out]; unfold holdB; rw [← HN1.out, ← HN2.out, decide_eq_false hz, ← HFL.out]; rfl
                  have hi2 : decide ((0 : Int) < n2) = decide (0 < n2) := decide_eq_decide.2 (by omega)
                  try rw [hi2]
                  go_wp2_with fail
                  go_meet
                  exact ⟨rfl, hid (HD4.out.on HSb.out)⟩
            case rest =>
              obtain ⟨rfl, HD5⟩ := hcut
              have HV5 := hid (HV.out.on HD5.out.be)
              clear HD4 HV4
              rcases hb with _ | _
              · go_wp2_with (first
                  | ((with_reducible refine loadM (x := ?lx134) (b := w.heap.size) m.m ?lg134 ?lo134 ?lxx134 ?lc134 ?lh134); (case lg134 => rfl); (case lo134 => rfl); (case lxx134 => rfl); (case lc134 => exact HD5.out.om))
                  | ((with_reducible refine loadC (x := ?lx135) (b := w.heap.size + 1) (T := 67) y.e ?lg135 ?lo135 ?lxx135 ?lc135 ?lh135); (case lg135 => rfl); (case lo135 => rfl); (case lxx135 => rfl); (case lc135 => exact HD5.out.ob))
                  | (go_at_call 147; refine (cAgree HV5.out HN.out (HMA.out.on HD5.out.be) HMS.out HFU.out (HYA.out.on HD5.out.be) HML.out HYL.out HOK.out).mono ?_; intro z w6 hp; obtain ⟨vz, hvz⟩ : ∃ v, z = .returned v := (by obtain ⟨v, _, e, _⟩ := hp; exact ⟨v, e⟩); subst hvz; have HO := hid (OutD.from hp (Tch.ofBelow HD5.out.be)); clear hp)
                  | fail)
                go_ret
                have hr : decideF nd s m y = agreeF nd s m y := by unfold decideF; rw [HDE.out, if_neg (by simp), ← HKB.out, if_neg (by simp), ← HHB.out, if_neg (by simp)]
                rw [hr]
                exact HO.out
              · go_wp2_with fail
                go_ret
                have hr : decideF nd s m y = (s, []) := by unfold decideF; rw [HDE.out, if_neg (by simp), ← HKB.out, if_neg (by simp), ← HHB.out, if_pos rfl]
                rw [hr]
                exact OutD.none rfl (HV5.out.mono (Nat.le_succ N)) (Tch.ofBelow HD5.out.be)
          · go_wp2_with (first
              | ((with_reducible refine loadM (x := ?lx72) (b := w.heap.size) m.m ?lg72 ?lo72 ?lxx72 ?lc72 ?lh72); (case lg72 => rfl); (case lo72 => rfl); (case lxx72 => rfl); (case lc72 => exact HD4.out.om))
              | (go_at_call 145; refine (cRefuse HV4.out HN.out m).mono ?_; intro z w5 hp; obtain ⟨vz, hvz⟩ : ∃ v, z = .returned v := (by obtain ⟨v, _, e, _⟩ := hp; exact ⟨v, e⟩); subst hvz; have HO := hid (OutD.mono (OutD.from hp (Tch.ofBelow HD4.out.be)) (Nat.le_succ N)); clear hp)
              | fail)
            go_ret
            have hr : decideF nd s m y = refuseF nd s m := by unfold decideF; rw [HDE.out, if_neg (by simp), ← HKB.out, if_pos rfl]
            rw [hr]
            exact HO.out
      · have kt : wc.cell? ⟨w.heap.size, 11, none⟩ = some (.int .i64 m.m.vt) := HD3.out.om.cell rfl
        go_wp2_with (first
          | ((with_reducible refine loadM (x := ?lx9) (b := w.heap.size) m.m ?lg9 ?lo9 ?lxx9 ?lc9 ?lh9); (case lg9 => rfl); (case lo9 => rfl); (case lxx9 => rfl); (case lc9 => exact HD3.out.om))
          | ((with_reducible refine wpList_buildOkT (x := ?bx10) m.m.vt ?bg10 ?bo10 ?be10 ?bh10); (case bg10 => rfl); (case bo10 => rfl); (case be10 => rfl))
          | (go_at_call 73; refine (cBackV HVV.out m.m { zM with so := 1, vt := m.m.vt, fl := true }).mono ?_; intro z w5 hp; have HO := hid (OutD.back (m := m) [] [] [] hp (HVV.out.mono (Nat.le_succ N)) (Tch.ofBelow HD3.out.be) (nilF _ _) (nilF _ _) (nilF _ _)); obtain ⟨vz, hvz⟩ : ∃ v, z = .returned v := (by obtain ⟨v, e, _⟩ := hp; exact ⟨v, e⟩); subst hvz; clear hp)
          | fail)
        go_ret
        have hr : decideF nd s m y = (s, [backA nd m { zA with so := 1, vt := m.m.vt, fl := true }]) := by unfold decideF; rw [if_pos HDE.out]
        rw [hr]
        exact HO.out
end Go.Proofs.YtlehcaacfgocaaaGreat
