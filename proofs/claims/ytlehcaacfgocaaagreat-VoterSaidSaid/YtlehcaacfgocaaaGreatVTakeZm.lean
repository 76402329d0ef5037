import Derived.Test.YtlehcaacfgocaaaGreatVDecideZm
import Derived.Test.YtlehcaacfgocaaaGreatG07
namespace Go.Proofs.YtlehcaacfgocaaaGreat
set_option linter.unusedVariables false
open Go.RowKit
open Go.Lib (hid)
def promY (y : En) (b : Int) : En := { y with e := { y.e with pr := b } }
def accY (y : En) (m : Ms) : En := ⟨{ (resE y.e m.m.vt).1 with pr := m.m.bal, ab := m.m.bal, xt := m.m.vt, xp := m.m.vp }, y.f, m.v, y.v⟩
def freeY (y : En) : En := { y with e := { y.e with fr := true } }
def prepareF (nd : Int) (s : Sd) (m : Ms) (y : En) : Sd × List An :=
  (freshS nd (putD s (promY y m.m.bal)), if mkE ((putD s (promY y m.m.bal)).c + 1) nd = 0 then [backA nd m { zA with so := 4, vl := predL (putD s (promY y m.m.bal)).xs m.m.c (mkV ((putD s (promY y m.m.bal)).c + 1) nd), fl := y.e.fr, s := mkV ((putD s (promY y m.m.bal)).c + 1) nd, ab := y.e.ab, xt := y.e.xt, xl := y.a, ft := y.e.ft, fpl := y.f }] else [])
def acceptF (nd : Int) (s : Sd) (m : Ms) (y : En) : Sd × List An :=
  if m.m.bal = 0 then (s, []) else (putD s (accY y m), [backA nd m { zA with so := 6 }])
theorem prom_eq {y : En} {b : Int} (hb : withinB b 1048576 = true) (hl : ¬ b < y.e.pr) : promE y.e b = ((promY y b).e, 0) := by unfold promE promY; rw [if_neg (by rw [hb]; simp), if_neg hl]
theorem prom_put {s : Sd} {y : En} {b : Int} (h : PutOk s y) (hb : withinB b 1048576 = true) : PutOk s (promY y b) := ⟨right_prom h.right hb, h.short, h.same⟩
theorem free_put {s : Sd} {y : En} (h : PutOk s y) : PutOk s (freeY y) := ⟨h.right, h.short, h.same⟩
theorem acc_c (y : En) (m : Ms) : (accY y m).e.c = y.e.c := by
  unfold accY resE
  by_cases h : validB m.m.vt = false
  · rw [if_pos h]
  · rw [if_neg h]
theorem acc_put {s : Sd} {y : En} {m : Ms} (h : PutOk s y) (hb : withinB m.m.bal 1048576 = true) (h0 : m.m.bal ≠ 0) (hf : fullB m.m.vt m.v = true) (hs : m.v.length ≤ 1024) : PutOk s (accY y m) :=
  ⟨right_acc h.right hb hf h0, ⟨h.short.1, hs, h.short.2.2⟩, by unfold En.id; rw [acc_c]; exact h.same⟩
theorem acc_eq {y : En} {m : Ms} (hb : withinB m.m.bal 1048576 = true) (hl : ¬ m.m.bal < y.e.pr) (h0 : m.m.bal ≠ 0) (hf : fullB m.m.vt m.v = true) : accE y.e m.m.bal m.m.vt m.m.vp (fullB m.m.vt m.v) = ((accY y m).e, 0) := by
  unfold accE accY
  rw [hf, hb, if_neg (by simp [h0]), if_neg hl]
theorem acc_eq0 {y : En} {m : Ms} (h0 : m.m.bal = 0) : accE y.e m.m.bal m.m.vt m.m.vp (fullB m.m.vt m.v) = (y.e, 1) := by
  unfold accE
  rw [if_pos (.inr (.inr h0))]
theorem acc_sl {y : En} {m : Ms} {w : World} (hy : y.at w) (hm : m.at w) : (accY y m).at w := ⟨by unfold accY resE; split <;> exact hy.1, hm.1, by unfold accY resE; split <;> exact hy.2.2⟩
theorem setsN {w : World} {q : Nat} {T : TypeId} {C : Array Value} (cs : Array Value) (h : w.heap[q]? = some (.cells C T (0, 0))) (hs : C.size = cs.size) : (w.setCells q 0 cs.toList).heap[q]? = some (.cells cs T (0, 0)) := by
  obtain ⟨C', h1, h2, _, h4⟩ := setsAll cs.toList 0 C w h
  have : C' = cs := by
    apply Array.ext_getElem?
    intro j
    by_cases hj : j < cs.size
    · have := h4 j (by simpa using hj) (by omega)
      rw [Nat.zero_add] at this
      rw [this]; simp
    · rw [Array.getElem?_eq_none (by omega), Array.getElem?_eq_none (by omega)]
  subst this
  exact h1
theorem rh_storeN {md : Region.Mode} {S : World → Prop} {ops : Array Oper} {i : Nat} {o : Oper} {rs : List Nat} {fuel : Nat} {listed listed' : Array Bool} {a : Act} {w : World} {Q : Exit → Act → World → Prop} {x y : Operand} {b : Nat} {T : TypeId} (cs : Array Value) (hT : (Tryz.prog.info? T).map (·.size) = some cs.size) (h1 : cs.all (·.oneCell') = true) (hi : ops[i]? = some o) (hl : listed.setIfInBounds i true = listed') (hg : o.guard = none) (ho : o.op = .store T x y)
    (hx : a.eval x = .pointer (some ⟨b, 0, none⟩)) (hy : a.eval y = .agg cs) (hd : o.dst = none) {C : Array Value} (hC : w.heap[b]? = some (.cells C T (0, 0))) (hsz : C.size = cs.size) (h : ∀ W, W.heap[b]? = some (.cells cs T (0, 0)) → Upd b w W → S W ∧ wpAnyH Tryz.prog md ops Q S fuel listed' a W) (hs : AllReadyH Tryz.prog md ops Q S fuel listed a w rs) : AllReadyH Tryz.prog md ops Q S fuel listed a w (i :: rs) := by
  refine rh_cons hi hl hg (fun K hK => ?_) hs
  refine wp_store_mid T x y ho b 0 _ hx hy (thereAt hC (by rw [hsz]; omega)) hT h1 ?_
  rw [hd]
  obtain ⟨h1, h2⟩ := h _ (setsN cs hC hsz) (setsUpd' w b 0 _)
  exact hK.out _ _ h1 h2
set_option maxRecDepth 100000 in
theorem run_buildP (p : Sv) (w : World) : (Instr.build 48 #[(1, p.v)]).run Tryz.prog w = .ok (.agg #[.int .i64 0, p.v]) w := by kernel_rfl
abbrev zeroV2 : Obj := .cells #[.int .i64 0, .slice none 0 0] 48
set_option maxRecDepth 100000 in
theorem run_buildPr (v : Sv) (fl : Bool) (s ab xt ft : Int) (xp fp : Sv) (w : World) : (Instr.build 50 #[(0, .int .i64 4), (5, .agg #[.int .i64 0, v.v]), (6, .bool fl), (7, .int .i64 s), (8, .int .i64 ab), (9, .agg #[.int .i64 xt, xp.v]), (10, .agg #[.int .i64 ft, fp.v])]).run Tryz.prog w = .ok (.agg ({ zM with so := 4, vp := v, fl := fl, s := s, ab := ab, xt := xt, xp := xp, ft := ft, fp := fp } : Mg).arr) w := by kernel_rfl
theorem wpList_buildPr {ops : Array Oper} {rest : List Oper} {op : Oper} {a : Act} {w : World} {Q : Exit → Act → World → Prop} {x1 x2 x3 x4 x5 x6 : Operand} (v : Sv) (fl : Bool) (s ab xt ft : Int) (xp fp : Sv) (hgd : op.guard = none) (ho : op.op = .build 50 #[(0, .const (.int .i64 4)), (5, x1), (6, x2), (7, x3), (8, x4), (9, x5), (10, x6)])
    (h1 : a.eval x1 = .agg #[.int .i64 0, v.v]) (h2 : a.eval x2 = .bool fl) (h3 : a.eval x3 = .int .i64 s) (h4 : a.eval x4 = .int .i64 ab) (h5 : a.eval x5 = .agg #[.int .i64 xt, xp.v]) (h6 : a.eval x6 = .agg #[.int .i64 ft, fp.v])
    (h : wpList Tryz.prog ops Q rest (a.put op.dst (.agg ({ zM with so := 4, vp := v, fl := fl, s := s, ab := ab, xt := xt, xp := xp, ft := ft, fp := fp } : Mg).arr)) w) : wpList Tryz.prog ops Q (op :: rest) a w := by
  refine wpList_plain hgd fun _ hK' => ?_
  unfold Oper.wp execOp
  have hb := run_buildPr v fl s ab xt ft xp fp w
  have hc : a.eval (.const (.int .i64 4)) = .int .i64 4 := rfl
  simp only [ho, List.map_toArray, List.map_cons, List.map_nil, h1, h2, h3, h4, h5, h6, hc, Sem.run_bind]
  rw [hb]
  simp only [Result.andThen_ok]
  exact hK' _ _ h
set_option maxRecDepth 100000 in
theorem run_buildSo (k : Int) (w : World) : (Instr.build 50 #[(0, .int .i64 k)]).run Tryz.prog w = .ok (.agg ({ zM with so := k } : Mg).arr) w := by kernel_rfl
theorem wpList_buildSo {ops : Array Oper} {rest : List Oper} {op : Oper} {a : Act} {w : World} {Q : Exit → Act → World → Prop} (k : Int) (hgd : op.guard = none) (ho : op.op = .build 50 #[(0, .const (.int .i64 k))])
    (h : wpList Tryz.prog ops Q rest (a.put op.dst (.agg ({ zM with so := k } : Mg).arr)) w) : wpList Tryz.prog ops Q (op :: rest) a w := by
  refine wpList_plain hgd fun _ hK' => ?_
  unfold Oper.wp execOp
  have hb := run_buildSo k w
  have hc : a.eval (.const (.int .i64 k)) = .int .i64 k := rfl
  simp only [ho, List.map_toArray, List.map_cons, List.map_nil, hc, Sem.run_bind]
  rw [hb]
  simp only [Result.andThen_ok]
  exact hK' _ _ h
theorem fresh_xs (nd : Int) (s : Sd) : (freshS nd s).xs = s.xs := by unfold freshS; split <;> rfl
theorem sl_upd {B : Bd} {w W : World} {g : Nat} {T : TypeId} {C : Array Value} {v : Value} {cs : List C7} (hU : Upd g w W) (h : SetF B w v cs) (hC : w.heap[g]? = some (.cells C T (0, 0))) (hs : C.size ≤ 6) : SetF B W v cs := h.tch hU.tch fun k hk => .inl fun i hi => by
  subst hk
  rw [cellAt' hC, Array.getElem?_eq_none (by omega)]
theorem infoV2 {p : Sv} : (Tryz.prog.info? 48).map (·.size) = some (#[.int .i64 0, p.v] : Array Value).size := by show _ = some 2; kernel_rfl
theorem oneV2 (p : Sv) : (#[.int .i64 0, p.v] : Array Value).all (·.oneCell') = true := all_oneCell_toArray (cs := [.int .i64 0, p.v]) fun v hv => by simp only [List.mem_cons, List.not_mem_nil, or_false] at hv; rcases hv with h | h <;> subst h <;> rfl
set_option maxHeartbeats 32000000 in
set_option maxRecDepth 100000 in
theorem cPrepare {w : World} {B : Bd} {q x b b2 N : Nat} {nd : Int} {s : Sd} {wv : Value} {ws : List Ms} (h : Vo w B q x b b2 N nd s wv ws) (hN : N < 20000) {m : Ms} (hm : m.at w) (hms : m.short 1024) (hb : withinB m.m.bal 1048576 = true) {y : En} (hy : y.at w) (hml : m.low B) (hyl : y.low B) (ok : PutOk s y) (hl : ¬ m.m.bal < y.e.pr) :
    Calls Tryz.prog 67 #[ptr q, .agg m.m.arr, .agg y.e.arr] w (OutD w B q x b b2 (N + 1) nd wv ws (prepareF nd s m y)) := by
  have HBW := hid hb
  have HLE := hid hl
  clear hb hl
  have HB := hid (laid2_b w (.cells m.m.arr 50) (.cells y.e.arr 67))
  have HM : Hid (OM ((w.alloc (.cells m.m.arr 50)).alloc (.cells y.e.arr 67)) w.heap.size m.m) := hid (laid2_0 w _ _)
  have HE : Hid (Ob ((w.alloc (.cells m.m.arr 50)).alloc (.cells y.e.arr 67)) (w.heap.size + 1) 67 y.e) := hid (laid2_1 w _ _)
  have HV := hid h
  have HNL := hid hN; have HN := hid (Nat.le_of_lt hN)
  have HMA := hid hm
  have HYA := hid hy
  have HMS := hid hms
  have HOK := hid ok
  have HML := hid hml
  have HYL := hid hyl
  clear hml hyl
  have hzz : ((w.alloc (.cells m.m.arr 50)).alloc (.cells y.e.arr 67)).heap.size = w.heap.size + 2 := by simp
  have HZ := hid hzz
  clear h hN hm hy hms ok hzz
  go_enter Tryz.func67, Tryz.ntmps67
  have tok : Hid (0 = 0) := hid rfl
  go_wp2_with (first
    | (clear tok; (with_reducible refine opaqueW ((w.alloc (.cells m.m.arr 50)).alloc (.cells y.e.arr 67)) ?_); intro W0 hW; rw [← hW] at HB HM HE HZ; clear hW; have kb : W0.cell? ⟨w.heap.size, 3, none⟩ = some (.int .i64 m.m.bal) := HM.out.cell rfl)
    | ((with_reducible refine loadC (x := ?lx1) (b := w.heap.size + 1) (T := 67) y.e ?lg1 ?lo1 ?lxx1 ?lc1 ?lh1); (case lg1 => rfl); (case lo1 => rfl); (case lxx1 => rfl); (case lc1 => exact HE.out))
    | (go_at_call 112; refine (cPromise y.e m.m.bal _).mono ?_; rintro z w2 ⟨hz, hB⟩; rw [prom_eq HBW.out HLE.out] at hz; subst hz; have HB2 := hid hB; have HR2 : Hid (Room w2 (w.heap.size + 1) 67) := hid (Ob.room (heapB HE.out hB (by have := HZ.out; omega))); clear hB)
    | ((with_reducible refine uponStore (e := (promY y m.m.bal).e) HR2.out ?_); intro w3 hO hU; have HO3 := hid hO; have HU3 := hid hU; clear hO hU)
    | fail)
  have HM3 : Hid (OM w3 w.heap.size m.m) := hid (HU3.out.ob (heapB HM.out HB2.out (by have := HZ.out; omega)) (by omega))
  have HB3 : Hid (Below w.heap.size w w3) := hid ((HB.out.trans (HB2.out.mono HB.out.size)).trans (HU3.out.below w.heap.size (Nat.le_succ _)))
  have HOK3 := hid (prom_put HOK.out HBW.out)
  have HYA3 : Hid ((promY y m.m.bal).at w3) := hid (HYA.out.on HB3.out)
  have HYL3 : Hid ((promY y m.m.bal).low B) := hid HYL.out
  clear HU3 HB2 HR2 HM HE HB kb
  have HV3 := hid (HV.out.on HB3.out)
  have HNI : Hid (∀ k, w.heap.size ≤ k → ¬ TI x b b2 k) := hid fun k hk hT => by have := HV.out.lt k (.inr hT); omega
  have HF : Hid (∀ W, Tch (TI x b b2) w3 W → W.cell? ⟨q, 0, none⟩ = some (ptr x)) := hid fun W hW => (cellAt' (hW.ob HV3.out.ob HV3.out.qi) 0).trans rfl
  refine rh_start (S := fun W => Tch (TI x b b2) w3 W) (n := 6) (listed := #[false, false, false, false, false, false]) (by kernel_rfl) rfl rfl ?_
  have HS0 : Hid (Tch (TI x b b2) w3 w3.drew) := hid (Tch.ofBelow (belowDrew (Below.refl _ w3)))
  have HVd := hid (HV3.out.on (belowDrew (Below.refl _ w3)))
  have HYd := hid (HYA3.out.on (belowDrew (Below.refl _ w3)))
  generalize w3.drew = wd3 at HS0 HVd HYd ⊢
  refine rh_takeS (i := 0) (o := ?o2) (v := ?v2) (listed' := ?l2) (a' := ?a2) ?hi2 (by kernel_rfl) (by kernel_rfl) (by kernel_rfl) ?hq2 ?hl2 ?hw2 ?hv2 ?ha2 HS0.out ?hh2
  case hi2 => (simp only [List.getElem?_toArray, List.getElem?_cons_zero]; try rfl)
  case hq2 => exact fun _ _ _ h => h
  case hl2 => (simp only [List.setIfInBounds_toArray, List.set_cons_zero]; try rfl)
  case hw2 => rfl
  case hv2 =>
    intro W hW
    have k0 := HF.out W hW
    go_simp
    try with_reducible rfl
  case ha2 => (simp only [Act.put, List.setIfInBounds_toArray, List.set_cons_succ, List.set_cons_zero]; try rfl)
  refine rh_takeS (i := 1) (o := ?o3) (v := ?v3) (listed' := ?l3) (a' := ?a3) ?hi3 (by kernel_rfl) (by kernel_rfl) (by kernel_rfl) ?hq3 ?hl3 ?hw3 ?hv3 ?ha3 HS0.out ?hh3
  case hi3 => (simp only [List.getElem?_toArray, List.getElem?_cons_succ, List.getElem?_cons_zero]; try rfl)
  case hq3 => exact fun _ _ _ h => h
  case hl3 => (simp only [List.setIfInBounds_toArray, List.set_cons_succ, List.set_cons_zero]; try rfl)
  case hw3 => rfl
  case hv3 =>
    intro W hW
    have k0 := HF.out W hW
    go_simp
    try with_reducible rfl
  case ha3 => (simp only [Act.put, List.setIfInBounds_toArray, List.set_cons_succ, List.set_cons_zero]; try rfl)
  refine rh_takeS (i := 2) (o := ?o4) (v := ?v4) (listed' := ?l4) (a' := ?a4) ?hi4 (by kernel_rfl) (by kernel_rfl) (by kernel_rfl) ?hq4 ?hl4 ?hw4 ?hv4 ?ha4 HS0.out ?hh4
  case hi4 => (simp only [List.getElem?_toArray, List.getElem?_cons_succ, List.getElem?_cons_zero]; try rfl)
  case hq4 => exact fun _ _ _ h => h
  case hl4 => (simp only [List.setIfInBounds_toArray, List.set_cons_succ, List.set_cons_zero]; try rfl)
  case hw4 => rfl
  case hv4 =>
    intro W hW
    have k0 := HF.out W hW
    go_simp
    try with_reducible rfl
  case ha4 => (simp only [Act.put, List.setIfInBounds_toArray, List.set_cons_succ, List.set_cons_zero]; try rfl)
  refine rh_takeS (i := 3) (o := ?o5) (v := ?v5) (listed' := ?l5) (a' := ?a5) ?hi5 (by kernel_rfl) (by kernel_rfl) (by kernel_rfl) ?hq5 ?hl5 ?hw5 ?hv5 ?ha5 HS0.out ?hh5
  case hi5 => (simp only [List.getElem?_toArray, List.getElem?_cons_succ, List.getElem?_cons_zero]; try rfl)
  case hq5 => exact fun _ _ _ h => h
  case hl5 => (simp only [List.setIfInBounds_toArray, List.set_cons_succ, List.set_cons_zero]; try rfl)
  case hw5 => rfl
  case hv5 =>
    intro W hW
    have k0 := HF.out W hW
    go_simp
    try with_reducible rfl
  case ha5 => (simp only [Act.put, List.setIfInBounds_toArray, List.set_cons_succ, List.set_cons_zero]; try rfl)
  refine rh_load (i := 4) (o := ?o6) (cs := (promY y m.m.bal).e.list) (T := 67) (x := ?x6) (b := ?b6) (q := ?q6) (listed' := ?l6) (a' := ?a6) ?hi6 (by kernel_rfl) (by kernel_rfl) (by kernel_rfl) ?hq6 ?hl6 ?hg6 ?ho6 ?hx6 ?hc6 Tryz.underlying67 rfl (infoEc (promY y m.m.bal).e) ?ha6 HS0.out ?hh6
  case hi6 => (simp only [List.getElem?_toArray, List.getElem?_cons_succ, List.getElem?_cons_zero]; try rfl)
  case hq6 => exact fun _ _ _ h => h
  case hl6 => (simp only [List.setIfInBounds_toArray, List.set_cons_succ, List.set_cons_zero]; try rfl)
  case hg6 => rfl
  case ho6 => rfl
  case hx6 => rfl
  case hc6 => exact fun W hW => Ob.range (T := 67) (e := (promY y m.m.bal).e) (hW.ob HO3.out (HNI.out _ (Nat.le_succ _)))
  case ha6 => (show Act.put _ _ (Value.agg (promY y m.m.bal).e.arr) = _); (simp only [Act.put, List.setIfInBounds_toArray, List.set_cons_succ, List.set_cons_zero]; try rfl)
  refine wpAnyH_ready (rs := [5]) (by kernel_rfl) (by simp) ?_
  refine rh_cons (i := 5) (o := ?o7) (listed' := ?l7) ?hi7 ?hl7 ?hg7 ?hh7 ?hs7
  case hi7 => (simp only [List.getElem?_toArray, List.getElem?_cons_succ, List.getElem?_cons_zero]; try rfl)
  case hl7 => (simp only [List.setIfInBounds_toArray, List.set_cons_succ, List.set_cons_zero]; try rfl)
  case hg7 => rfl
  case hs7 => exact AllReadyH.nil
  intro K hK
  go_simp
  refine (cPutV HVd.out HN.out HYd.out HYL3.out HOK3.out).mono ?_
  rintro z w4 ⟨rfl, hV4, hT4⟩
  have HS4 := hid (HS0.out.trans hT4)
  have HV4 := hid hV4
  clear hV4 hT4
  refine hK.out _ _ HS4.out ?_
  clear hK K
  refine wpAnyH_done (by kernel_rfl) ?_ _
  have HM4 : Hid (OM w4 w.heap.size m.m) := hid (HS4.out.ob HM3.out (HNI.out _ (Nat.le_refl _)))
  have HE4 : Hid (Ob w4 (w.heap.size + 1) 67 (promY y m.m.bal).e) := hid (HS4.out.ob HO3.out (HNI.out _ (Nat.le_succ _)))
  have HT4 : Hid (Tch (TV q x b b2) w w4) := hid ((Tch.ofBelow HB3.out).trans (tch_i HS4.out))
  have HY4 : Hid ((promY y m.m.bal).at w4) := hid (HV3.out.en (tch_i HS4.out) HYA3.out)
  clear HF HS0 HVd HYd HYA3 HV3 HO3 HM3 HB3 HS4 HOK3 HNI
  obtain ⟨s1, hs1⟩ : ∃ z, z = putD s (promY y m.m.bal) := ⟨_, rfl⟩
  rw [← hs1] at HV4
  have HS1 := hid hs1
  have hr : prepareF nd s m y = (freshS nd s1, if mkE (s1.c + 1) nd = 0 then [backA nd m { zA with so := 4, vl := predL s1.xs m.m.c (mkV (s1.c + 1) nd), fl := y.e.fr, s := mkV (s1.c + 1) nd, ab := y.e.ab, xt := y.e.xt, xl := y.a, ft := y.e.ft, fpl := y.f }] else []) := by rw [hs1]; rfl
  have HRR := hid hr
  clear hs1 hr
  have HNV : Hid (∀ k, w.heap.size ≤ k → ¬ TV q x b b2 k) := hid fun k hk hT => by have := HV.out.lt k hT; omega
  have hFr := cFresh HV4.out
  go_wp2_with fail
  by_cases h0 : mkE (s1.c + 1) nd = 0
  · go_at_call 117
    refine hFr.mono ?_
    rintro z w5 ⟨rfl, hV5, hT5⟩
    rw [decide_eq_true h0]
    have HV5 := hid hV5
    have HT5 := hid (HT4.out.trans hT5)
    have HM5 : Hid (OM w5 w.heap.size m.m) := hid (hT5.ob HM4.out (HNV.out _ (Nat.le_refl _)))
    have HE5 : Hid (Ob w5 (w.heap.size + 1) 67 (promY y m.m.bal).e) := hid (hT5.ob HE4.out (HNV.out _ (Nat.le_succ _)))
    have HY5 := hid (HV4.out.en hT5 HY4.out)
    clear hV5 hT5 hFr HV4 HM4 HE4 HY4 HT4
    go_wp2_with fail
    have HF : Hid (∀ W, Below w5.heap.size w5 W → W.cell? ⟨q, 0, none⟩ = some (ptr x) ∧ W.cell? ⟨w.heap.size, 4, none⟩ = some (.int .i64 m.m.c.i) ∧ W.cell? ⟨w.heap.size, 5, none⟩ = some (.int .i64 m.m.c.k) ∧ W.cell? ⟨w.heap.size, 6, none⟩ = some (.int .i64 m.m.c.s) ∧ W.cell? ⟨w.heap.size, 7, none⟩ = some (.int .i64 m.m.c.t) ∧ W.cell? ⟨w.heap.size, 8, none⟩ = some (.int .i64 m.m.c.d) ∧ W.cell? ⟨w.heap.size, 9, none⟩ = some (.int .i64 m.m.c.p) ∧ W.cell? ⟨w.heap.size, 10, none⟩ = some (.int .i64 m.m.c.q)) := hid fun W hW => by
      have hm : OM W w.heap.size m.m := heapB HM5.out hW (Array.getElem?_eq_some_iff.1 HM5.out).1
      exact ⟨(HV5.out.on hW).cell0, (hm).cell rfl, (hm).cell rfl, (hm).cell rfl, (hm).cell rfl, (hm).cell rfl, (hm).cell rfl, (hm).cell rfl⟩
    go_upto_region 6 with fail
    go_cut [9] from 10 to 38 (fun u wx => ∃ (g : Nat) (p : Sv), u = .pointer (some ⟨g, 0, none⟩) ∧ Hid (Below w5.heap.size w5 wx ∧ wx.heap[g]? = some (.cells #[.int .i64 0, p.v] 48 (0, 0)) ∧ SetF B wx p.v (predL s1.xs m.m.c (mkV (s1.c + 1) nd)) ∧ w5.heap.size ≤ g))
    case first =>
      refine rh_start (S := fun W => Below w5.heap.size w5 W) (n := 11) (listed := #[false, false, false, false, false, false, false, false, false, false, false]) (by kernel_rfl) rfl rfl ?_
      have HS0 : Hid (Below w5.heap.size w5 w5.drew) := hid (belowDrew (Below.refl _ w5))
      generalize w5.drew = wd at HS0 ⊢
      refine rh_takeS (i := 0) (o := ?o8) (v := ?v8) (listed' := ?l8) (a' := ?a8) ?hi8 (by kernel_rfl) (by kernel_rfl) (by kernel_rfl) ?hq8 ?hl8 ?hw8 ?hv8 ?ha8 HS0.out ?hh8
      case hi8 => (simp only [List.getElem?_toArray, List.getElem?_cons_zero]; try rfl)
      case hq8 => exact fun _ _ _ h => h
      case hl8 => (simp only [List.setIfInBounds_toArray, List.set_cons_zero]; try rfl)
      case hw8 => rfl
      case hv8 =>
        intro W hW
        obtain ⟨k0, d0, d1, d2, d3, d4, d5, d6⟩ := HF.out W hW
        go_simp
        try with_reducible rfl
      case ha8 => (simp only [Act.put, List.setIfInBounds_toArray, List.set_cons_succ, List.set_cons_zero]; try rfl)
      refine rh_takeS (i := 1) (o := ?o9) (v := ?v9) (listed' := ?l9) (a' := ?a9) ?hi9 (by kernel_rfl) (by kernel_rfl) (by kernel_rfl) ?hq9 ?hl9 ?hw9 ?hv9 ?ha9 HS0.out ?hh9
      case hi9 => (simp only [List.getElem?_toArray, List.getElem?_cons_succ, List.getElem?_cons_zero]; try rfl)
      case hq9 => exact fun _ _ _ h => h
      case hl9 => (simp only [List.setIfInBounds_toArray, List.set_cons_succ, List.set_cons_zero]; try rfl)
      case hw9 => rfl
      case hv9 =>
        intro W hW
        obtain ⟨k0, d0, d1, d2, d3, d4, d5, d6⟩ := HF.out W hW
        go_simp
        try with_reducible rfl
      case ha9 => (simp only [Act.put, List.setIfInBounds_toArray, List.set_cons_succ, List.set_cons_zero]; try rfl)
      refine rh_takeS (i := 2) (o := ?o10) (v := ?v10) (listed' := ?l10) (a' := ?a10) ?hi10 (by kernel_rfl) (by kernel_rfl) (by kernel_rfl) ?hq10 ?hl10 ?hw10 ?hv10 ?ha10 HS0.out ?hh10
      case hi10 => (simp only [List.getElem?_toArray, List.getElem?_cons_succ, List.getElem?_cons_zero]; try rfl)
      case hq10 => exact fun _ _ _ h => h
      case hl10 => (simp only [List.setIfInBounds_toArray, List.set_cons_succ, List.set_cons_zero]; try rfl)
      case hw10 => rfl
      case hv10 =>
        intro W hW
        obtain ⟨k0, d0, d1, d2, d3, d4, d5, d6⟩ := HF.out W hW
        go_simp
        try with_reducible rfl
      case ha10 => (simp only [Act.put, List.setIfInBounds_toArray, List.set_cons_succ, List.set_cons_zero]; try rfl)
      refine rh_takeS (i := 3) (o := ?o11) (v := ?v11) (listed' := ?l11) (a' := ?a11) ?hi11 (by kernel_rfl) (by kernel_rfl) (by kernel_rfl) ?hq11 ?hl11 ?hw11 ?hv11 ?ha11 HS0.out ?hh11
      case hi11 => (simp only [List.getElem?_toArray, List.getElem?_cons_succ, List.getElem?_cons_zero]; try rfl)
      case hq11 => exact fun _ _ _ h => h
      case hl11 => (simp only [List.setIfInBounds_toArray, List.set_cons_succ, List.set_cons_zero]; try rfl)
      case hw11 => rfl
      case hv11 =>
        intro W hW
        obtain ⟨k0, d0, d1, d2, d3, d4, d5, d6⟩ := HF.out W hW
        go_simp
        try with_reducible rfl
      case ha11 => (simp only [Act.put, List.setIfInBounds_toArray, List.set_cons_succ, List.set_cons_zero]; try rfl)
      refine rh_takeS (i := 4) (o := ?o12) (v := ?v12) (listed' := ?l12) (a' := ?a12) ?hi12 (by kernel_rfl) (by kernel_rfl) (by kernel_rfl) ?hq12 ?hl12 ?hw12 ?hv12 ?ha12 HS0.out ?hh12
      case hi12 => (simp only [List.getElem?_toArray, List.getElem?_cons_succ, List.getElem?_cons_zero]; try rfl)
      case hq12 => exact fun _ _ _ h => h
      case hl12 => (simp only [List.setIfInBounds_toArray, List.set_cons_succ, List.set_cons_zero]; try rfl)
      case hw12 => rfl
      case hv12 =>
        intro W hW
        obtain ⟨k0, d0, d1, d2, d3, d4, d5, d6⟩ := HF.out W hW
        go_simp
        try with_reducible rfl
      case ha12 => (simp only [Act.put, List.setIfInBounds_toArray, List.set_cons_succ, List.set_cons_zero]; try rfl)
      refine rh_takeS (i := 5) (o := ?o13) (v := ?v13) (listed' := ?l13) (a' := ?a13) ?hi13 (by kernel_rfl) (by kernel_rfl) (by kernel_rfl) ?hq13 ?hl13 ?hw13 ?hv13 ?ha13 HS0.out ?hh13
      case hi13 => (simp only [List.getElem?_toArray, List.getElem?_cons_succ, List.getElem?_cons_zero]; try rfl)
      case hq13 => exact fun _ _ _ h => h
      case hl13 => (simp only [List.setIfInBounds_toArray, List.set_cons_succ, List.set_cons_zero]; try rfl)
      case hw13 => rfl
      case hv13 =>
        intro W hW
        obtain ⟨k0, d0, d1, d2, d3, d4, d5, d6⟩ := HF.out W hW
        go_simp
        try with_reducible rfl
      case ha13 => (simp only [Act.put, List.setIfInBounds_toArray, List.set_cons_succ, List.set_cons_zero]; try rfl)
      refine rh_takeS (i := 6) (o := ?o14) (v := ?v14) (listed' := ?l14) (a' := ?a14) ?hi14 (by kernel_rfl) (by kernel_rfl) (by kernel_rfl) ?hq14 ?hl14 ?hw14 ?hv14 ?ha14 HS0.out ?hh14
      case hi14 => (simp only [List.getElem?_toArray, List.getElem?_cons_succ, List.getElem?_cons_zero]; try rfl)
      case hq14 => exact fun _ _ _ h => h
      case hl14 => (simp only [List.setIfInBounds_toArray, List.set_cons_succ, List.set_cons_zero]; try rfl)
      case hw14 => rfl
      case hv14 =>
        intro W hW
        obtain ⟨k0, d0, d1, d2, d3, d4, d5, d6⟩ := HF.out W hW
        go_simp
        try with_reducible rfl
      case ha14 => (simp only [Act.put, List.setIfInBounds_toArray, List.set_cons_succ, List.set_cons_zero]; try rfl)
      refine wpAnyH_ready (rs := [7, 9]) (by kernel_rfl) (by simp) ?_
      refine rh_consW (i := 7) (o := ?o15) (listed' := ?l15) ?hi15 ?hl15 ?hg15 ?hh15 ?hs15
      case hi15 => (simp only [List.getElem?_toArray, List.getElem?_cons_succ, List.getElem?_cons_zero]; try rfl)
      case hl15 => (simp only [List.setIfInBounds_toArray, List.set_cons_succ, List.set_cons_zero]; try rfl)
      case hg15 => rfl
      case hh15 =>
        intro K hK
        go_simp
        refine (cPredV (HV5.out.on HS0.out) (by have := HNL.out; omega) m.m.c (mkV (s1.c + 1) nd)).mono ?_
        rintro z wa1 ⟨va, rfl, hv, hB⟩
        rw [fresh_xs] at hv
        obtain ⟨p, rfl, hpp⟩ := hv.1.asSv
        have HSp1 := hid (HS0.out.trans (hB.mono HS0.out.size))
        have HVa1 : Hid (SetF B wa1 p.v (predL s1.xs m.m.c (mkV (s1.c + 1) nd))) := hid hv.setF
        refine hK.out _ _ HSp1.out ?_
        clear hK K
        refine rh_takeS (i := 8) (o := ?o17) (v := ?v17) (listed' := ?l17) (a' := ?a17) ?hi17 (by kernel_rfl) (by kernel_rfl) (by kernel_rfl) ?hq17 ?hl17 ?hw17 ?hv17 ?ha17 HSp1.out ?hh17
        case hi17 => (simp only [List.getElem?_toArray, List.getElem?_cons_succ, List.getElem?_cons_zero]; try rfl)
        case hq17 => exact fun _ _ _ h => h
        case hl17 => (simp only [List.setIfInBounds_toArray, List.set_cons_succ, List.set_cons_zero]; try rfl)
        case hw17 => rfl
        case hv17 =>
          intro W hW
          have := run_buildP p W
          go_simp
          try with_reducible rfl
        case ha17 => (simp only [Act.put, List.setIfInBounds_toArray, List.set_cons_succ, List.set_cons_zero]; try rfl)
        refine wpAnyH_ready (rs := [9]) (by kernel_rfl) (by simp) ?_
        refine rh_cons (i := 9) (o := ?o18) (listed' := ?l18) ?hi18 ?hl18 ?hg18 ?hh18 ?hs18
        case hi18 => (simp only [List.getElem?_toArray, List.getElem?_cons_succ, List.getElem?_cons_zero]; try rfl)
        case hl18 => (simp only [List.setIfInBounds_toArray, List.set_cons_succ, List.set_cons_zero]; try rfl)
        case hg18 => rfl
        case hs18 => exact AllReadyH.nil
        intro K hK
        go_simp
        have HS2 : Hid (Below w5.heap.size w5 (wa1.alloc zeroV2)) := hid (HSp1.out.trans ((laid1_b wa1 zeroV2).mono HSp1.out.size))
        have HZ2 : Hid ((wa1.alloc zeroV2).heap[wa1.heap.size]? = some zeroV2) := hid (laid1_0 wa1 zeroV2)
        have HLB2 : Hid (w5.heap.size ≤ wa1.heap.size) := hid HSp1.out.size
        have HVb := hid (HVa1.out.on (laid1_b wa1 zeroV2))
        refine hK.out _ _ HS2.out ?_
        clear hK K
        refine wpAnyH_ready (rs := [10]) (by kernel_rfl) (by simp) ?_
        refine rh_storeN (i := 10) (o := ?o19) (listed' := ?l19) (x := ?x19) (y := ?y19) (b := wa1.heap.size) (T := 48) #[.int .i64 0, p.v] infoV2 (oneV2 p) ?hi19 ?hl19 ?hg19 ?ho19 ?hx19 ?hy19 ?hd19 HZ2.out rfl ?hh19 ?hs19
        case hi19 => (simp only [List.getElem?_toArray, List.getElem?_cons_succ, List.getElem?_cons_zero]; try rfl)
        case hl19 => (simp only [List.setIfInBounds_toArray, List.set_cons_succ, List.set_cons_zero]; try rfl)
        case hg19 => rfl
        case ho19 => rfl
        case hx19 => rfl
        case hy19 => rfl
        case hd19 => rfl
        case hs19 => exact AllReadyH.nil
        intro wq hO hU
        have HSq := hid (HS2.out.trans (hU.below _ HLB2.out))
        refine ⟨HSq.out, ?_⟩
        refine wpAnyH_done (by kernel_rfl) ?_ _
        go_wp2_with fail
        go_meet
        exact ⟨wa1.heap.size, p, rfl, hid ⟨HSq.out, hO, sl_upd hU HVb.out HZ2.out (by show 2 ≤ 6; decide), HLB2.out⟩⟩
      refine rh_cons (i := 9) (o := ?o20) (listed' := ?l20) ?hi20 ?hl20 ?hg20 ?hh20 ?hs20
      case hi20 => (simp only [List.getElem?_toArray, List.getElem?_cons_succ, List.getElem?_cons_zero]; try rfl)
      case hl20 => (simp only [List.setIfInBounds_toArray, List.set_cons_succ, List.set_cons_zero]; try rfl)
      case hg20 => rfl
      case hs20 => exact AllReadyH.nil
      intro K hK
      go_simp
      have HS3 : Hid (Below w5.heap.size w5 (wd.alloc zeroV2)) := hid (HS0.out.trans ((laid1_b wd zeroV2).mono HS0.out.size))
      have HZ3 : Hid ((wd.alloc zeroV2).heap[wd.heap.size]? = some zeroV2) := hid (laid1_0 wd zeroV2)
      have HLB3 : Hid (w5.heap.size ≤ wd.heap.size) := hid HS0.out.size
      refine hK.out _ _ HS3.out ?_
      clear hK K
      refine wpAnyH_ready (rs := [7]) (by kernel_rfl) (by simp) ?_
      refine rh_cons (i := 7) (o := ?o21) (listed' := ?l21) ?hi21 ?hl21 ?hg21 ?hh21 ?hs21
      case hi21 => (simp only [List.getElem?_toArray, List.getElem?_cons_succ, List.getElem?_cons_zero]; try rfl)
      case hl21 => (simp only [List.setIfInBounds_toArray, List.set_cons_succ, List.set_cons_zero]; try rfl)
      case hg21 => rfl
      case hs21 => exact AllReadyH.nil
      intro K hK
      go_simp
      refine (cPredV (HV5.out.on HS3.out) (by have := HNL.out; omega) m.m.c (mkV (s1.c + 1) nd)).mono ?_
      rintro z wa4 ⟨va, rfl, hv, hB⟩
      rw [fresh_xs] at hv
      obtain ⟨p, rfl, hpp⟩ := hv.1.asSv
      have HSp4 := hid (HS3.out.trans (hB.mono HS3.out.size))
      have HVa4 : Hid (SetF B wa4 p.v (predL s1.xs m.m.c (mkV (s1.c + 1) nd))) := hid hv.setF
      have HZ4 := hid (heapB HZ3.out hB (by simp))
      refine hK.out _ _ HSp4.out ?_
      clear hK K
      refine rh_takeS (i := 8) (o := ?o22) (v := ?v22) (listed' := ?l22) (a' := ?a22) ?hi22 (by kernel_rfl) (by kernel_rfl) (by kernel_rfl) ?hq22 ?hl22 ?hw22 ?hv22 ?ha22 HSp4.out ?hh22
      case hi22 => (simp only [List.getElem?_toArray, List.getElem?_cons_succ, List.getElem?_cons_zero]; try rfl)
      case hq22 => exact fun _ _ _ h => h
      case hl22 => (simp only [List.setIfInBounds_toArray, List.set_cons_succ, List.set_cons_zero]; try rfl)
      case hw22 => rfl
      case hv22 =>
        intro W hW
        have := run_buildP p W
        go_simp
        try with_reducible rfl
      case ha22 => (simp only [Act.put, List.setIfInBounds_toArray, List.set_cons_succ, List.set_cons_zero]; try rfl)
      refine wpAnyH_ready (rs := [10]) (by kernel_rfl) (by simp) ?_
      refine rh_storeN (i := 10) (o := ?o23) (listed' := ?l23) (x := ?x23) (y := ?y23) (b := wd.heap.size) (T := 48) #[.int .i64 0, p.v] infoV2 (oneV2 p) ?hi23 ?hl23 ?hg23 ?ho23 ?hx23 ?hy23 ?hd23 HZ4.out rfl ?hh23 ?hs23
      case hi23 => (simp only [List.getElem?_toArray, List.getElem?_cons_succ, List.getElem?_cons_zero]; try rfl)
      case hl23 => (simp only [List.setIfInBounds_toArray, List.set_cons_succ, List.set_cons_zero]; try rfl)
      case hg23 => rfl
      case ho23 => rfl
      case hx23 => rfl
      case hy23 => rfl
      case hd23 => rfl
      case hs23 => exact AllReadyH.nil
      intro wq hO hU
      have HSq := hid (HSp4.out.trans (hU.below _ HLB3.out))
      refine ⟨HSq.out, ?_⟩
      refine wpAnyH_done (by kernel_rfl) ?_ _
      go_wp2_with fail
      go_meet
      exact ⟨wd.heap.size, p, rfl, hid ⟨HSq.out, hO, sl_upd hU HVa4.out HZ4.out (by show 2 ≤ 6; decide), HLB3.out⟩⟩
    case rest =>
      obtain ⟨g, p, rfl, HH⟩ := hcut
      have HB6 := hid HH.out.1
      have HP6 := hid HH.out.2.2.1
      have g0 : wc.cell? ⟨g, 0, none⟩ = some (.int .i64 0) := (cellAt' HH.out.2.1 0).trans rfl
      have g1 : wc.cell? ⟨g, 1, none⟩ = some (.slice p.a p.n p.c) := (cellAt' HH.out.2.1 1).trans rfl
      clear HH HF
      have HM6 : Hid (OM wc w.heap.size m.m) := hid (heapB HM5.out HB6.out (Array.getElem?_eq_some_iff.1 HM5.out).1)
      have HE6 : Hid (Ob wc (w.heap.size + 1) 67 (promY y m.m.bal).e) := hid (heapB HE5.out HB6.out (Array.getElem?_eq_some_iff.1 HE5.out).1)
      have kr : wc.cell? ⟨w.heap.size + 1, 15, none⟩ = some (.bool y.e.fr) := HE6.out.cell (j := 15) rfl
      have ka : wc.cell? ⟨w.heap.size + 1, 12, none⟩ = some (.int .i64 y.e.ab) := HE6.out.cell (j := 12) rfl
      have kxt : wc.cell? ⟨w.heap.size + 1, 13, none⟩ = some (.int .i64 y.e.xt) := HE6.out.cell (j := 13) rfl
      have kxp : wc.cell? ⟨w.heap.size + 1, 14, none⟩ = some (.slice y.e.xp.a y.e.xp.n y.e.xp.c) := HE6.out.cell (j := 14) rfl
      have kft : wc.cell? ⟨w.heap.size + 1, 10, none⟩ = some (.int .i64 y.e.ft) := HE6.out.cell (j := 10) rfl
      have kfp : wc.cell? ⟨w.heap.size + 1, 11, none⟩ = some (.slice y.e.fp.a y.e.fp.n y.e.fp.c) := HE6.out.cell (j := 11) rfl
      have HV6 := hid (HV5.out.on HB6.out)
      have HT6 : Hid (Tch (TV q x b b2) w wc) := hid (HT5.out.trans (Tch.ofBelow HB6.out))
      have HY6 := hid (HY5.out.on HB6.out)
      clear HV5 HT5 HM5 HE5 HB6
      go_wp2_with (first
        | ((with_reducible refine loadM (x := ?lx25) (b := w.heap.size) m.m ?lg25 ?lo25 ?lxx25 ?lc25 ?lh25); (case lg25 => rfl); (case lo25 => rfl); (case lxx25 => rfl); (case lc25 => exact HM6.out))
        | ((with_reducible refine wpList_buildPr (x1 := ?bx241) (x2 := ?bx242) (x3 := ?bx243) (x4 := ?bx244) (x5 := ?bx245) (x6 := ?bx246) p y.e.fr (mkV (s1.c + 1) nd) y.e.ab y.e.xt y.e.ft y.e.xp y.e.fp ?bg24 ?bo24 ?be241 ?be242 ?be243 ?be244 ?be245 ?be246 ?bh24); (case bg24 => rfl); (case bo24 => rfl); (case be241 => rfl); (case be242 => rfl); (case be243 => rfl); (case be244 => rfl); (case be245 => rfl); (case be246 => rfl))
        | (go_at_call 73; refine (cBackV HV6.out m.m { zM with so := 4, vp := p, fl := y.e.fr, s := mkV (s1.c + 1) nd, ab := y.e.ab, xt := y.e.xt, xp := y.e.xp, ft := y.e.ft, fp := y.e.fp }).mono ?_; intro z wz hp; have HO := hid (OutD.back (m := m) _ y.a y.f hp (HV6.out) HT6.out HP6.out (SetF.ofLow HY6.out.2.1 HYL3.out.2.1) (SetF.ofLow HY6.out.1 HYL3.out.1)); obtain ⟨vz, hvz⟩ : ∃ v, z = .returned v := (by obtain ⟨v, e, _⟩ := hp; exact ⟨v, e⟩); subst hvz; clear hp)
        | fail)
      go_ret
      have hr := HRR.out
      rw [if_pos h0] at hr
      rw [hr]
      have hO := HO.out
      skip
      exact HO.out
  · go_at_call 117
    refine hFr.mono ?_
    rintro z w5 ⟨rfl, hV5, hT5⟩
    rw [decide_eq_false h0]
    have HV5 := hid hV5
    have HT5 := hid (HT4.out.trans hT5)
    have HM5 : Hid (OM w5 w.heap.size m.m) := hid (hT5.ob HM4.out (HNV.out _ (Nat.le_refl _)))
    have HE5 : Hid (Ob w5 (w.heap.size + 1) 67 (promY y m.m.bal).e) := hid (hT5.ob HE4.out (HNV.out _ (Nat.le_succ _)))
    have HY5 := hid (HV4.out.en hT5 HY4.out)
    clear hV5 hT5 hFr HV4 HM4 HE4 HY4 HT4
    go_wp2_with fail
    go_ret
    have hr := HRR.out
    rw [if_neg h0] at hr
    rw [hr]
    exact OutD.none rfl HV5.out HT5.out
end Go.Proofs.YtlehcaacfgocaaaGreat
