import Derived.Test.YtlehcaacfgocaaaGreatG22
import Derived.Test.YtlehcaacfgocaaaGreatG06
namespace Go.Proofs.YtlehcaacfgocaaaGreat
set_option linter.unusedVariables false
open Go.RowKit
open Go.Lib (hid)
structure PutOk (s : Sd) (y : En) : Prop where
  right : y.right = true
  short : y.short 1024
  same : hasE s.xs y.id = true → (lookE s.xs y.id).c = y.e.c
theorem right_ok {y : En} (h : y.right = true) : y.e.c.ok = true := (right_iff.1 h).1
theorem seeE_bdV {c : Int} {e : Ev} (h : 0 ≤ c ∧ c ≤ 65535) : 0 ≤ seeE c e ∧ seeE c e ≤ 65535 := see_bd (see_bd (see_bd (see_bd h)))
theorem cPutV {w : World} {B : Bd} {q x b b2 N : Nat} {nd : Int} {s : Sd} {wv : Value} {ws : List Ms} (h : Vo w B q x b b2 N nd s wv ws) (hN : N ≤ 20000) {y : En} (hy : y.at w) (hlow : y.low B) (ok : PutOk s y) :
    Calls Tryz.prog 114 #[ptr x, .agg y.e.arr] w fun e w' => e = .returned (.int .i64 0) ∧ Vo w' B q x b b2 (N + 1) nd (putD s y) wv ws ∧ Tch (TI x b b2) w w' := by
  obtain ⟨n, ids, hn, hv⟩ := h.ix
  refine (cPut hv.ix (by unfold maxLen; omega) (ok_wf (right_ok ok.right)) hy ok.short (r := 0) ?_).mono ?_
  · rw [if_neg (by rw [ok.right]; simp), if_neg (fun hc => hc.2 (ok.same hc.1))]
  · rintro e w' ⟨rfl, hI, hT⟩
    rw [if_pos rfl] at hI
    exact ⟨rfl, h.put (tch_i hT) (hv.idx hT hI) (by omega) (seeE_bdV h.cb) hy ok.short hlow, hT⟩
theorem Vo.qi {w : World} {B : Bd} {q x b b2 N : Nat} {nd : Int} {s : Sd} {wv : Value} {ws : List Ms} (h : Vo w B q x b b2 N nd s wv ws) : ¬ TI x b b2 q := by
  obtain ⟨n, ids, hn, hv⟩ := h.ix
  exact hv.qi
theorem Vo.ob {w : World} {B : Bd} {q x b b2 N : Nat} {nd : Int} {s : Sd} {wv : Value} {ws : List Ms} (h : Vo w B q x b b2 N nd s wv ws) : w.heap[q]? = some (.cells #[ptr x, wv, .bool s.ov] 59 (0, 0)) := by
  obtain ⟨n, ids, hn, hv⟩ := h.ix
  exact hv.ob
theorem vot_eq {y : En} {m : Ms} (hr : y.right = true) (hf : fullB m.m.vt m.v = true) (h0 : y.e.ft = 0) : votE y.e m.m.vt m.m.vp (fullB m.m.vt m.v) (decide (y.e.ft = m.m.vt) && sameB y.f m.v) (noneB y.e.ft y.f) = ((votY y m).e, 0) := by
  have h16 := valid_ne (full_parts hf).1
  have hn := ft_none hr h0
  unfold votE votY
  rw [hf, if_neg (by simp), if_neg (by rw [h0, decide_eq_false (show ¬ (0 : Int) = m.m.vt by omega)]; simp), if_neg (by rw [h0, hn]; simp [noneB])]
theorem res_eq0 {y : En} {t : Int} (hv : validB t = true) : resE y.e t = ((resY y t).e, 0) := by
  unfold resY resE
  rw [if_neg (by rw [hv]; simp)]
theorem times_ok {y : En} (h : y.right = true) : timesB y.e.lo y.e.hi = true := (right_iff.1 h).2.2.1
theorem vot_c (y : En) (m : Ms) : (votY y m).e.c = y.e.c := by
  unfold votY resE
  by_cases h : validB m.m.vt = false
  · rw [if_pos h]
  · rw [if_neg h]
theorem res_c (y : En) (t : Int) : (resY y t).e.c = y.e.c := by
  unfold resY resE
  by_cases h : validB t = false
  · rw [if_pos h]
  · rw [if_neg h]
theorem vot_put {s : Sd} {y : En} {m : Ms} (h : PutOk s y) (hf : fullB m.m.vt m.v = true) (hs : m.v.length ≤ 1024) : PutOk s (votY y m) :=
  ⟨right_vot h.right hf, ⟨hs, h.short.2.1, h.short.2.2⟩, by unfold En.id; rw [vot_c]; exact h.same⟩
theorem res_put {s : Sd} {y : En} {t : Int} (h : PutOk s y) (hf : validB t = true) : PutOk s (resY y t) :=
  ⟨right_res h.right hf, h.short, by unfold En.id; rw [res_c]; exact h.same⟩
theorem vot_sl {y : En} {m : Ms} {w : World} (hy : y.at w) (hm : m.at w) : (votY y m).at w := ⟨hm.1, by unfold votY resE; split <;> exact hy.2.1, by unfold votY resE; split <;> exact hy.2.2⟩
theorem res_sl {y : En} {t : Int} {w : World} (hy : y.at w) : (resY y t).at w := by
  unfold resY resE En.at
  by_cases h : validB t = false
  · rw [if_pos h]; exact hy
  · rw [if_neg h]; exact hy
set_option maxRecDepth 100000 in
theorem run_buildOk (t : Int) (p : Sv) (fl : Bool) (w : World) : (Instr.build 50 #[(0, .int .i64 1), (5, .agg #[.int .i64 t, p.v]), (6, .bool fl)]).run Tryz.prog w = .ok (.agg ({ zM with so := 1, vt := t, vp := p, fl := fl } : Mg).arr) w := by kernel_rfl
theorem wpList_buildOk {ops : Array Oper} {rest : List Oper} {op : Oper} {a : Act} {w : World} {Q : Exit → Act → World → Prop} {x y : Operand} (t : Int) (p : Sv) (fl : Bool) (hgd : op.guard = none) (ho : op.op = .build 50 #[(0, .const (.int .i64 1)), (5, x), (6, y)]) (hx : a.eval x = .agg #[.int .i64 t, p.v]) (hy : a.eval y = .bool fl)
    (h : wpList Tryz.prog ops Q rest (a.put op.dst (.agg ({ zM with so := 1, vt := t, vp := p, fl := fl } : Mg).arr)) w) : wpList Tryz.prog ops Q (op :: rest) a w := by
  refine wpList_plain hgd fun _ hK' => ?_
  unfold Oper.wp execOp
  have hb := run_buildOk t p fl w
  have hc : a.eval (.const (.int .i64 1)) = .int .i64 1 := rfl
  simp only [ho, List.map_toArray, List.map_cons, List.map_nil, hx, hy, hc, Sem.run_bind]
  rw [hb]
  simp only [Result.andThen_ok]
  exact hK' _ _ h
set_option maxHeartbeats 32000000 in
set_option maxRecDepth 100000 in
theorem cAgree {w : World} {B : Bd} {q x b b2 N : Nat} {nd : Int} {s : Sd} {wv : Value} {ws : List Ms} (h : Vo w B q x b b2 N nd s wv ws) (hN : N ≤ 20000) {m : Ms} (hm : m.at w) (hms : m.short 1024) (hf : fullB m.m.vt m.v = true) {y : En} (hy : y.at w) (hml : m.low B) (hyl : y.low B) (ok : PutOk s y) :
    Calls Tryz.prog 147 #[ptr q, .agg m.m.arr, .agg y.e.arr] w (OutD w B q x b b2 (N + 1) nd wv ws (agreeF nd s m y)) := by
  have HB := hid (laid2_b w (.cells m.m.arr 50) (.cells y.e.arr 67))
  have HM : Hid (OM ((w.alloc (.cells m.m.arr 50)).alloc (.cells y.e.arr 67)) w.heap.size m.m) := hid (laid2_0 w _ _)
  have HE : Hid (Ob ((w.alloc (.cells m.m.arr 50)).alloc (.cells y.e.arr 67)) (w.heap.size + 1) 67 y.e) := hid (laid2_1 w _ _)
  have HV := hid h
  have HN := hid hN
  have HMA := hid hm
  have HYA := hid hy
  have HMS := hid hms
  have HFU := hid hf
  have HOK := hid ok
  have HML := hid hml
  have HYL := hid hyl
  clear hml hyl
  have hlen := h.len
  have HLN := hid hlen
  have hzz : ((w.alloc (.cells m.m.arr 50)).alloc (.cells y.e.arr 67)).heap.size = w.heap.size + 2 := by simp
  have HZ := hid hzz
  clear h hN hm hy hms hf ok hlen hzz
  go_enter Tryz.func147, Tryz.ntmps147
  go_wp2_with fail
  generalize ((w.alloc (.cells m.m.arr 50)).alloc (.cells y.e.arr 67)) = W0 at HB HM HE HZ ⊢
  have HF : Hid (∀ W, Below W0.heap.size W0 W → W.cell? ⟨q, 0, none⟩ = some (ptr x) ∧ W.cell? ⟨w.heap.size, 11, none⟩ = some (.int .i64 m.m.vt) ∧ W.cell? ⟨w.heap.size, 12, none⟩ = some (.slice m.m.vp.a m.m.vp.n m.m.vp.c) ∧ W.cell? ⟨w.heap.size, 4, none⟩ = some (.int .i64 m.m.c.i) ∧ W.cell? ⟨w.heap.size, 5, none⟩ = some (.int .i64 m.m.c.k) ∧ W.cell? ⟨w.heap.size, 6, none⟩ = some (.int .i64 m.m.c.s) ∧ W.cell? ⟨w.heap.size, 7, none⟩ = some (.int .i64 m.m.c.t) ∧ W.cell? ⟨w.heap.size, 8, none⟩ = some (.int .i64 m.m.c.d) ∧ W.cell? ⟨w.heap.size, 9, none⟩ = some (.int .i64 m.m.c.p) ∧ W.cell? ⟨w.heap.size, 10, none⟩ = some (.int .i64 m.m.c.q)) := hid fun W hW => by
    have hm : OM W w.heap.size m.m := heapB HM.out hW (Array.getElem?_eq_some_iff.1 HM.out).1
    exact ⟨(HV.out.on (HB.out.trans (hW.mono HB.out.size))).cell0, hm.cell rfl, hm.cell rfl, (hm).cell rfl, (hm).cell rfl, (hm).cell rfl, (hm).cell rfl, (hm).cell rfl, (hm).cell rfl, (hm).cell rfl⟩
  refine rh_start (S := fun W => Below W0.heap.size W0 W) (n := 15) (listed := #[false, false, false, false, false, false, false, false, false, false, false, false, false, false, false]) (by kernel_rfl) rfl rfl ?_
  have HS0 : Hid (Below W0.heap.size W0 W0.drew) := hid (belowDrew (Below.refl _ W0))
  generalize W0.drew = wd at HS0 ⊢
  refine rh_takeS (i := 0) (o := ?o1) (v := ?v1) (listed' := ?l1) (a' := ?a1) ?hi1 (by kernel_rfl) (by kernel_rfl) (by kernel_rfl) ?hq1 ?hl1 ?hw1 ?hv1 ?ha1 HS0.out ?hh1
  case hi1 => (simp only [List.getElem?_toArray, List.getElem?_cons_zero]; try rfl)
  case hq1 => exact fun _ _ _ h => h
  case hl1 => (simp only [List.setIfInBounds_toArray, List.set_cons_zero]; try rfl)
  case hw1 => rfl
  case hv1 =>
    intro W hW
    obtain ⟨k0, k1, k2, d0, d1, d2, d3, d4, d5, d6⟩ := HF.out W hW
    go_simp
    try with_reducible rfl
  case ha1 => (simp only [Act.put, List.setIfInBounds_toArray, List.set_cons_succ, List.set_cons_zero]; try rfl)
  refine rh_takeS (i := 1) (o := ?o2) (v := ?v2) (listed' := ?l2) (a' := ?a2) ?hi2 (by kernel_rfl) (by kernel_rfl) (by kernel_rfl) ?hq2 ?hl2 ?hw2 ?hv2 ?ha2 HS0.out ?hh2
  case hi2 => (simp only [List.getElem?_toArray, List.getElem?_cons_succ, List.getElem?_cons_zero]; try rfl)
  case hq2 => exact fun _ _ _ h => h
  case hl2 => (simp only [List.setIfInBounds_toArray, List.set_cons_succ, List.set_cons_zero]; try rfl)
  case hw2 => rfl
  case hv2 =>
    intro W hW
    obtain ⟨k0, k1, k2, d0, d1, d2, d3, d4, d5, d6⟩ := HF.out W hW
    go_simp
    try with_reducible rfl
  case ha2 => (simp only [Act.put, List.setIfInBounds_toArray, List.set_cons_succ, List.set_cons_zero]; try rfl)
  refine rh_takeS (i := 2) (o := ?o3) (v := ?v3) (listed' := ?l3) (a' := ?a3) ?hi3 (by kernel_rfl) (by kernel_rfl) (by kernel_rfl) ?hq3 ?hl3 ?hw3 ?hv3 ?ha3 HS0.out ?hh3
  case hi3 => (simp only [List.getElem?_toArray, List.getElem?_cons_succ, List.getElem?_cons_zero]; try rfl)
  case hq3 => exact fun _ _ _ h => h
  case hl3 => (simp only [List.setIfInBounds_toArray, List.set_cons_succ, List.set_cons_zero]; try rfl)
  case hw3 => rfl
  case hv3 =>
    intro W hW
    obtain ⟨k0, k1, k2, d0, d1, d2, d3, d4, d5, d6⟩ := HF.out W hW
    go_simp
    try with_reducible rfl
  case ha3 => (simp only [Act.put, List.setIfInBounds_toArray, List.set_cons_succ, List.set_cons_zero]; try rfl)
  refine rh_takeS (i := 3) (o := ?o4) (v := ?v4) (listed' := ?l4) (a' := ?a4) ?hi4 (by kernel_rfl) (by kernel_rfl) (by kernel_rfl) ?hq4 ?hl4 ?hw4 ?hv4 ?ha4 HS0.out ?hh4
  case hi4 => (simp only [List.getElem?_toArray, List.getElem?_cons_succ, List.getElem?_cons_zero]; try rfl)
  case hq4 => exact fun _ _ _ h => h
  case hl4 => (simp only [List.setIfInBounds_toArray, List.set_cons_succ, List.set_cons_zero]; try rfl)
  case hw4 => rfl
  case hv4 =>
    intro W hW
    obtain ⟨k0, k1, k2, d0, d1, d2, d3, d4, d5, d6⟩ := HF.out W hW
    go_simp
    try with_reducible rfl
  case ha4 => (simp only [Act.put, List.setIfInBounds_toArray, List.set_cons_succ, List.set_cons_zero]; try rfl)
  refine rh_takeS (i := 4) (o := ?o5) (v := ?v5) (listed' := ?l5) (a' := ?a5) ?hi5 (by kernel_rfl) (by kernel_rfl) (by kernel_rfl) ?hq5 ?hl5 ?hw5 ?hv5 ?ha5 HS0.out ?hh5
  case hi5 => (simp only [List.getElem?_toArray, List.getElem?_cons_succ, List.getElem?_cons_zero]; try rfl)
  case hq5 => exact fun _ _ _ h => h
  case hl5 => (simp only [List.setIfInBounds_toArray, List.set_cons_succ, List.set_cons_zero]; try rfl)
  case hw5 => rfl
  case hv5 =>
    intro W hW
    obtain ⟨k0, k1, k2, d0, d1, d2, d3, d4, d5, d6⟩ := HF.out W hW
    go_simp
    try with_reducible rfl
  case ha5 => (simp only [Act.put, List.setIfInBounds_toArray, List.set_cons_succ, List.set_cons_zero]; try rfl)
  refine rh_takeS (i := 5) (o := ?o6) (v := ?v6) (listed' := ?l6) (a' := ?a6) ?hi6 (by kernel_rfl) (by kernel_rfl) (by kernel_rfl) ?hq6 ?hl6 ?hw6 ?hv6 ?ha6 HS0.out ?hh6
  case hi6 => (simp only [List.getElem?_toArray, List.getElem?_cons_succ, List.getElem?_cons_zero]; try rfl)
  case hq6 => exact fun _ _ _ h => h
  case hl6 => (simp only [List.setIfInBounds_toArray, List.set_cons_succ, List.set_cons_zero]; try rfl)
  case hw6 => rfl
  case hv6 =>
    intro W hW
    obtain ⟨k0, k1, k2, d0, d1, d2, d3, d4, d5, d6⟩ := HF.out W hW
    go_simp
    try with_reducible rfl
  case ha6 => (simp only [Act.put, List.setIfInBounds_toArray, List.set_cons_succ, List.set_cons_zero]; try rfl)
  refine rh_takeS (i := 6) (o := ?o7) (v := ?v7) (listed' := ?l7) (a' := ?a7) ?hi7 (by kernel_rfl) (by kernel_rfl) (by kernel_rfl) ?hq7 ?hl7 ?hw7 ?hv7 ?ha7 HS0.out ?hh7
  case hi7 => (simp only [List.getElem?_toArray, List.getElem?_cons_succ, List.getElem?_cons_zero]; try rfl)
  case hq7 => exact fun _ _ _ h => h
  case hl7 => (simp only [List.setIfInBounds_toArray, List.set_cons_succ, List.set_cons_zero]; try rfl)
  case hw7 => rfl
  case hv7 =>
    intro W hW
    obtain ⟨k0, k1, k2, d0, d1, d2, d3, d4, d5, d6⟩ := HF.out W hW
    go_simp
    try with_reducible rfl
  case ha7 => (simp only [Act.put, List.setIfInBounds_toArray, List.set_cons_succ, List.set_cons_zero]; try rfl)
  refine rh_takeS (i := 7) (o := ?o8) (v := ?v8) (listed' := ?l8) (a' := ?a8) ?hi8 (by kernel_rfl) (by kernel_rfl) (by kernel_rfl) ?hq8 ?hl8 ?hw8 ?hv8 ?ha8 HS0.out ?hh8
  case hi8 => (simp only [List.getElem?_toArray, List.getElem?_cons_succ, List.getElem?_cons_zero]; try rfl)
  case hq8 => exact fun _ _ _ h => h
  case hl8 => (simp only [List.setIfInBounds_toArray, List.set_cons_succ, List.set_cons_zero]; try rfl)
  case hw8 => rfl
  case hv8 =>
    intro W hW
    obtain ⟨k0, k1, k2, d0, d1, d2, d3, d4, d5, d6⟩ := HF.out W hW
    go_simp
    try with_reducible rfl
  case ha8 => (simp only [Act.put, List.setIfInBounds_toArray, List.set_cons_succ, List.set_cons_zero]; try rfl)
  refine rh_takeS (i := 8) (o := ?o9) (v := ?v9) (listed' := ?l9) (a' := ?a9) ?hi9 (by kernel_rfl) (by kernel_rfl) (by kernel_rfl) ?hq9 ?hl9 ?hw9 ?hv9 ?ha9 HS0.out ?hh9
  case hi9 => (simp only [List.getElem?_toArray, List.getElem?_cons_succ, List.getElem?_cons_zero]; try rfl)
  case hq9 => exact fun _ _ _ h => h
  case hl9 => (simp only [List.setIfInBounds_toArray, List.set_cons_succ, List.set_cons_zero]; try rfl)
  case hw9 => rfl
  case hv9 =>
    intro W hW
    obtain ⟨k0, k1, k2, d0, d1, d2, d3, d4, d5, d6⟩ := HF.out W hW
    go_simp
    try with_reducible rfl
  case ha9 => (simp only [Act.put, List.setIfInBounds_toArray, List.set_cons_succ, List.set_cons_zero]; try rfl)
  refine rh_takeS (i := 10) (o := ?o10) (v := ?v10) (listed' := ?l10) (a' := ?a10) ?hi10 (by kernel_rfl) (by kernel_rfl) (by kernel_rfl) ?hq10 ?hl10 ?hw10 ?hv10 ?ha10 HS0.out ?hh10
  case hi10 => (simp only [List.getElem?_toArray, List.getElem?_cons_succ, List.getElem?_cons_zero]; try rfl)
  case hq10 => exact fun _ _ _ h => h
  case hl10 => (simp only [List.setIfInBounds_toArray, List.set_cons_succ, List.set_cons_zero]; try rfl)
  case hw10 => rfl
  case hv10 =>
    intro W hW
    obtain ⟨k0, k1, k2, d0, d1, d2, d3, d4, d5, d6⟩ := HF.out W hW
    go_simp
    try with_reducible rfl
  case ha10 => (simp only [Act.put, List.setIfInBounds_toArray, List.set_cons_succ, List.set_cons_zero]; try rfl)
  refine rh_takeS (i := 11) (o := ?o11) (v := ?v11) (listed' := ?l11) (a' := ?a11) ?hi11 (by kernel_rfl) (by kernel_rfl) (by kernel_rfl) ?hq11 ?hl11 ?hw11 ?hv11 ?ha11 HS0.out ?hh11
  case hi11 => (simp only [List.getElem?_toArray, List.getElem?_cons_succ, List.getElem?_cons_zero]; try rfl)
  case hq11 => exact fun _ _ _ h => h
  case hl11 => (simp only [List.setIfInBounds_toArray, List.set_cons_succ, List.set_cons_zero]; try rfl)
  case hw11 => rfl
  case hv11 =>
    intro W hW
    obtain ⟨k0, k1, k2, d0, d1, d2, d3, d4, d5, d6⟩ := HF.out W hW
    go_simp
    try with_reducible rfl
  case ha11 => (simp only [Act.put, List.setIfInBounds_toArray, List.set_cons_succ, List.set_cons_zero]; try rfl)
  refine rh_takeS (i := 12) (o := ?o12) (v := ?v12) (listed' := ?l12) (a' := ?a12) ?hi12 (by kernel_rfl) (by kernel_rfl) (by kernel_rfl) ?hq12 ?hl12 ?hw12 ?hv12 ?ha12 HS0.out ?hh12
  case hi12 => (simp only [List.getElem?_toArray, List.getElem?_cons_succ, List.getElem?_cons_zero]; try rfl)
  case hq12 => exact fun _ _ _ h => h
  case hl12 => (simp only [List.setIfInBounds_toArray, List.set_cons_succ, List.set_cons_zero]; try rfl)
  case hw12 => rfl
  case hv12 =>
    intro W hW
    obtain ⟨k0, k1, k2, d0, d1, d2, d3, d4, d5, d6⟩ := HF.out W hW
    go_simp
    try with_reducible rfl
  case ha12 => (simp only [Act.put, List.setIfInBounds_toArray, List.set_cons_succ, List.set_cons_zero]; try rfl)
  refine wpAnyH_ready (rs := [9]) (by kernel_rfl) (by simp) ?_
  refine rh_cons (i := 9) (o := ?o13) (listed' := ?l13) ?hi13 ?hl13 ?hg13 ?hh13 ?hs13
  case hi13 => (simp only [List.getElem?_toArray, List.getElem?_cons_succ, List.getElem?_cons_zero]; try rfl)
  case hl13 => (simp only [List.setIfInBounds_toArray, List.set_cons_succ, List.set_cons_zero]; try rfl)
  case hg13 => rfl
  case hs13 => exact AllReadyH.nil
  intro K hK
  go_simp
  refine (cPredV (HV.out.on (HB.out.trans (HS0.out.mono HB.out.size))) HN.out m.m.c m.m.vt).mono ?_
  rintro z wa ⟨va, rfl, hv, hB⟩
  obtain ⟨p, rfl, hp⟩ := hv.1.asSv
  have HSa := hid (HS0.out.trans (hB.mono HS0.out.size))
  have HVa := hid hv
  clear hv hB hp
  refine hK.out _ _ HSa.out ?_
  clear hK K
  refine wpAnyH_ready (rs := [13]) (by kernel_rfl) (by simp) ?_
  refine rh_cons (i := 13) (o := ?o14) (listed' := ?l14) ?hi14 ?hl14 ?hg14 ?hh14 ?hs14
  case hi14 => (simp only [List.getElem?_toArray, List.getElem?_cons_succ, List.getElem?_cons_zero]; try rfl)
  case hl14 => (simp only [List.setIfInBounds_toArray, List.set_cons_succ, List.set_cons_zero]; try rfl)
  case hg14 => rfl
  case hs14 => exact AllReadyH.nil
  intro K hK
  go_simp
  refine (cMinus HVa.out.1 (HMA.out.1.on (HB.out.trans (HSa.out.mono HB.out.size))) (by have := touch_len s.xs m.m.c (fun z => aheadE z.e m.m.vt); have := HLN.out; have := HN.out; unfold predL; omega) (by have := HMS.out.1; omega)).mono ?_
  rintro z wb ⟨vb, rfl, hv, hB⟩
  obtain ⟨⟨ra, rn, rc⟩, rfl, hr⟩ := (Own.sl hv).asSv
  have HSb := hid (HSa.out.trans (hB.mono HSa.out.size))
  have HVb : Hid (Own wb wa.heap.size (.slice ra rn rc) (moreL s.xs m)) := hid hv
  have HRN : Hid (rn = (moreL s.xs m).length) := hid hr
  have HWA : Hid (w.heap.size + 2 ≤ wa.heap.size) := hid (by have := HSa.out.size; have := HZ.out; omega)
  clear hv hB hr HVa
  refine hK.out _ _ HSb.out ?_
  clear hK K
  refine rh_takeS (i := 14) (o := ?o15) (v := ?v15) (listed' := ?l15) (a' := ?a15) ?hi15 (by kernel_rfl) (by kernel_rfl) (by kernel_rfl) ?hq15 ?hl15 ?hw15 ?hv15 ?ha15 HSb.out ?hh15
  case hi15 => (simp only [List.getElem?_toArray, List.getElem?_cons_succ, List.getElem?_cons_zero]; try rfl)
  case hq15 => exact fun _ _ _ h => h
  case hl15 => (simp only [List.setIfInBounds_toArray, List.set_cons_succ, List.set_cons_zero]; try rfl)
  case hw15 => rfl
  case hv15 =>
    intro W hW
    skip
    go_simp
    try with_reducible rfl
  case ha15 => (simp only [Act.put, List.setIfInBounds_toArray, List.set_cons_succ, List.set_cons_zero]; try rfl)
  refine wpAnyH_done (by kernel_rfl) ?_ _
  have HM1 : Hid (OM wb w.heap.size m.m) := hid (heapB HM.out HSb.out (Array.getElem?_eq_some_iff.1 HM.out).1)
  have HE1 : Hid (Ob wb (w.heap.size + 1) 67 y.e) := hid (heapB HE.out HSb.out (Array.getElem?_eq_some_iff.1 HE.out).1)
  have HB1 := hid (HB.out.trans (HSb.out.mono HB.out.size))
  have HL1 : Hid (w.heap.size + 1 < wb.heap.size) := hid (Array.getElem?_eq_some_iff.1 HE1.out).1
  clear HS0 HSa HSb HF HM HE HB HLN
  obtain ⟨bal, hbal⟩ : ∃ z, z = m.m.bal := ⟨_, rfl⟩
  obtain ⟨ft, hft⟩ : ∃ z, z = y.e.ft := ⟨_, rfl⟩
  have kb : wb.cell? ⟨w.heap.size, 3, none⟩ = some (.int .i64 bal) := by rw [hbal]; exact HM1.out.cell rfl
  have kf : wb.cell? ⟨w.heap.size + 1, 10, none⟩ = some (.int .i64 ft) := by rw [hft]; exact HE1.out.cell (j := 10) rfl
  have kt : wb.cell? ⟨w.heap.size, 11, none⟩ = some (.int .i64 m.m.vt) := HM1.out.cell rfl
  have kp : wb.cell? ⟨w.heap.size, 12, none⟩ = some (.slice m.m.vp.a m.m.vp.n m.m.vp.c) := HM1.out.cell rfl
  have HFT := hid hft
  have hvb : votesB s.xs m y = (decide (bal = 0) && (decide (rn = 0) && decide (ft = 0))) := by unfold votesB; rw [hbal, hft, ← HRN.out]
  have HVB := hid hvb
  clear hvb hbal hft HRN
  by_cases h1 : bal = 0
  · subst h1
    by_cases h2 : rn = 0
    · subst h2
      by_cases h3 : ft = 0
      · have HH3 := hid h3
        have hvb : votesB s.xs m y = true := by rw [HVB.out, decide_eq_true h3]; simp
        replace HVB := hid hvb
        clear hvb
        subst h3
        go_wp2_with (first
          | ((with_reducible refine loadC (x := ?lx16) (b := w.heap.size + 1) (T := 67) y.e ?lg16 ?lo16 ?lxx16 ?lc16 ?lh16); (case lg16 => rfl); (case lo16 => rfl); (case lxx16 => rfl); (case lc16 => exact HE1.out))
          | (go_at_call 180; go_loud (refine (cVote (HYA.out.on HB1.out).1 (HMA.out.on HB1.out).1 HOK.out.short.1 HMS.out.1 (times_ok HOK.out.right)).mono ?_; rintro z w2 ⟨hz, hB⟩; rw [vot_eq HOK.out.right HFU.out HFT.out.symm] at hz; subst hz; have HB2 := hid hB; have HR2 : Hid (Room w2 (w.heap.size + 1) 67) := hid (Ob.room (heapB HE1.out hB HL1.out)); clear hB))
          | ((with_reducible refine uponStore (e := (votY y m).e) HR2.out ?_); intro w3 hO hU; have HO3 := hid hO; have HU3 := hid hU; clear hO hU)
          | fail)
        have HM3 : Hid (OM w3 w.heap.size m.m) := hid (HU3.out.ob (heapB HM1.out HB2.out (Nat.lt_of_succ_lt HL1.out)) (by omega))
        have HB3 : Hid (Below w.heap.size w w3) := hid ((HB1.out.trans (HB2.out.mono HB1.out.size)).trans (HU3.out.below w.heap.size (Nat.le_succ _)))
        have HR3 : Hid (Own w3 wa.heap.size (.slice ra 0 rc) (moreL s.xs m)) := hid (own_tch (own_below HVb.out HB2.out fun k hk => (HVb.out.lt k hk).2) HU3.out.tch (fun k hk hs => by have := (HVb.out.lt k hk).1; have := HWA.out; omega))
        have HOK3 : Hid (PutOk s (votY y m)) := hid (vot_put HOK.out HFU.out HMS.out.1)
        have HYL3 : Hid ((votY y m).low B) := hid (vot_low HYL.out HML.out)
        have HYA3 : Hid ((votY y m).at w3) := hid (vot_sl (HYA.out.on HB3.out) (HMA.out.on HB3.out))
        have HV3 := hid (HV.out.on HB3.out)
        have HNI : Hid (∀ k, w.heap.size ≤ k → ¬ TI x b b2 k) := hid fun k hk hT => by have := HV.out.lt k (.inr hT); omega
        clear HU3 HB2 HR2 HVb HE1 HM1 HB1 HL1 kb kf kt kp
        have HF : Hid (∀ W, Tch (TI x b b2) w3 W → W.cell? ⟨q, 0, none⟩ = some (ptr x)) := hid fun W hW => (cellAt' (hW.ob HV3.out.ob HV3.out.qi) 0).trans rfl
        refine rh_start (S := fun W => Tch (TI x b b2) w3 W) (n := 6) (listed := #[false, false, false, false, false, false]) (by kernel_rfl) rfl rfl ?_
        have HS0 : Hid (Tch (TI x b b2) w3 w3.drew) := hid (Tch.ofBelow (belowDrew (Below.refl _ w3)))
        have HVd := hid (HV3.out.on (belowDrew (Below.refl _ w3)))
        have HYd := hid (HYA3.out.on (belowDrew (Below.refl _ w3)))
        generalize w3.drew = wd3 at HS0 HVd HYd ⊢
        refine rh_takeS (i := 0) (o := ?o21) (v := ?v21) (listed' := ?l21) (a' := ?a21) ?hi21 (by kernel_rfl) (by kernel_rfl) (by kernel_rfl) ?hq21 ?hl21 ?hw21 ?hv21 ?ha21 HS0.out ?hh21
        case hi21 => (simp only [List.getElem?_toArray, List.getElem?_cons_zero]; try rfl)
        case hq21 => exact fun _ _ _ h => h
        case hl21 => (simp only [List.setIfInBounds_toArray, List.set_cons_zero]; try rfl)
        case hw21 => rfl
        case hv21 =>
          intro W hW
          have k0 := HF.out W hW
          go_simp
          try with_reducible rfl
        case ha21 => (simp only [Act.put, List.setIfInBounds_toArray, List.set_cons_succ, List.set_cons_zero]; try rfl)
        refine rh_takeS (i := 1) (o := ?o22) (v := ?v22) (listed' := ?l22) (a' := ?a22) ?hi22 (by kernel_rfl) (by kernel_rfl) (by kernel_rfl) ?hq22 ?hl22 ?hw22 ?hv22 ?ha22 HS0.out ?hh22
        case hi22 => (simp only [List.getElem?_toArray, List.getElem?_cons_succ, List.getElem?_cons_zero]; try rfl)
        case hq22 => exact fun _ _ _ h => h
        case hl22 => (simp only [List.setIfInBounds_toArray, List.set_cons_succ, List.set_cons_zero]; try rfl)
        case hw22 => rfl
        case hv22 =>
          intro W hW
          have k0 := HF.out W hW
          go_simp
          try with_reducible rfl
        case ha22 => (simp only [Act.put, List.setIfInBounds_toArray, List.set_cons_succ, List.set_cons_zero]; try rfl)
        refine rh_takeS (i := 2) (o := ?o23) (v := ?v23) (listed' := ?l23) (a' := ?a23) ?hi23 (by kernel_rfl) (by kernel_rfl) (by kernel_rfl) ?hq23 ?hl23 ?hw23 ?hv23 ?ha23 HS0.out ?hh23
        case hi23 => (simp only [List.getElem?_toArray, List.getElem?_cons_succ, List.getElem?_cons_zero]; try rfl)
        case hq23 => exact fun _ _ _ h => h
        case hl23 => (simp only [List.setIfInBounds_toArray, List.set_cons_succ, List.set_cons_zero]; try rfl)
        case hw23 => rfl
        case hv23 =>
          intro W hW
          have k0 := HF.out W hW
          go_simp
          try with_reducible rfl
        case ha23 => (simp only [Act.put, List.setIfInBounds_toArray, List.set_cons_succ, List.set_cons_zero]; try rfl)
        refine rh_takeS (i := 3) (o := ?o24) (v := ?v24) (listed' := ?l24) (a' := ?a24) ?hi24 (by kernel_rfl) (by kernel_rfl) (by kernel_rfl) ?hq24 ?hl24 ?hw24 ?hv24 ?ha24 HS0.out ?hh24
        case hi24 => (simp only [List.getElem?_toArray, List.getElem?_cons_succ, List.getElem?_cons_zero]; try rfl)
        case hq24 => exact fun _ _ _ h => h
        case hl24 => (simp only [List.setIfInBounds_toArray, List.set_cons_succ, List.set_cons_zero]; try rfl)
        case hw24 => rfl
        case hv24 =>
          intro W hW
          have k0 := HF.out W hW
          go_simp
          try with_reducible rfl
        case ha24 => (simp only [Act.put, List.setIfInBounds_toArray, List.set_cons_succ, List.set_cons_zero]; try rfl)
        refine rh_load (i := 4) (o := ?o25) (cs := (votY y m).e.list) (T := 67) (x := ?x25) (b := ?b25) (q := ?q25) (listed' := ?l25) (a' := ?a25) ?hi25 (by kernel_rfl) (by kernel_rfl) (by kernel_rfl) ?hq25 ?hl25 ?hg25 ?ho25 ?hx25 ?hc25 Tryz.underlying67 rfl (infoEc (votY y m).e) ?ha25 HS0.out ?hh25
        case hi25 => (simp only [List.getElem?_toArray, List.getElem?_cons_succ, List.getElem?_cons_zero]; try rfl)
        case hq25 => exact fun _ _ _ h => h
        case hl25 => (simp only [List.setIfInBounds_toArray, List.set_cons_succ, List.set_cons_zero]; try rfl)
        case hg25 => rfl
        case ho25 => rfl
        case hx25 => rfl
        case hc25 => exact fun W hW => Ob.range (T := 67) (e := (votY y m).e) (hW.ob HO3.out (HNI.out _ (Nat.le_succ _)))
        case ha25 => (show Act.put _ _ (Value.agg (votY y m).e.arr) = _); (simp only [Act.put, List.setIfInBounds_toArray, List.set_cons_succ, List.set_cons_zero]; try rfl)
        refine wpAnyH_ready (rs := [5]) (by kernel_rfl) (by simp) ?_
        refine rh_cons (i := 5) (o := ?o26) (listed' := ?l26) ?hi26 ?hl26 ?hg26 ?hh26 ?hs26
        case hi26 => (simp only [List.getElem?_toArray, List.getElem?_cons_succ, List.getElem?_cons_zero]; try rfl)
        case hl26 => (simp only [List.setIfInBounds_toArray, List.set_cons_succ, List.set_cons_zero]; try rfl)
        case hg26 => rfl
        case hs26 => exact AllReadyH.nil
        intro K hK
        go_simp
        refine (cPutV HVd.out HN.out HYd.out HYL3.out HOK3.out).mono ?_
        rintro z w4 ⟨rfl, hV4, hT4⟩
        have HS4 := hid (HS0.out.trans hT4)
        have HV4 := hid hV4
        clear hV4 hT4
        refine hK.out _ _ HS4.out ?_
        clear hK K
        refine wpAnyH_done (by kernel_rfl) ?_ _
        have HM4 : Hid (OM w4 w.heap.size m.m) := hid (HS4.out.ob HM3.out (HNI.out _ (Nat.le_refl _)))
        have HR4 : Hid (SetF B w4 (.slice ra 0 rc) (moreL s.xs m)) := hid ((Own.slT HR3.out).setF.tch HS4.out fun k hk => .inl (HV3.out.nocell k (.inr hk)))
        have HT4 : Hid (Tch (TV q x b b2) w w4) := hid ((Tch.ofBelow HB3.out).trans (tch_i HS4.out))
        clear HF HS0 HVd HYd HYA3 HV3 HR3 HO3 HM3 HB3 HOK3
        have kt : w4.cell? ⟨w.heap.size, 11, none⟩ = some (.int .i64 m.m.vt) := HM4.out.cell rfl
        go_wp2_with (first
          | ((with_reducible refine loadM (x := ?lx17) (b := w.heap.size) m.m ?lg17 ?lo17 ?lxx17 ?lc17 ?lh17); (case lg17 => rfl); (case lo17 => rfl); (case lxx17 => rfl); (case lc17 => exact HM4.out))
          | ((with_reducible refine wpList_buildOk (x := ?bx18) (y := ?by18) m.m.vt ⟨ra, 0, rc⟩ true ?bg18 ?bo18 ?be18 ?bf18 ?bh18); (case bg18 => rfl); (case bo18 => rfl); (case be18 => rfl); (case bf18 => rfl))
          | (go_at_call 73; refine (cBackV HV4.out m.m { zM with so := 1, vt := m.m.vt, vp := ⟨ra, 0, rc⟩, fl := true }).mono ?_; intro z w5 hp; have HO := hid (OutD.back (m := m) _ [] [] hp HV4.out HT4.out HR4.out (nilF _ _) (nilF _ _)); obtain ⟨vz, hvz⟩ : ∃ v, z = .returned v := (by obtain ⟨v, e, _⟩ := hp; exact ⟨v, e⟩); subst hvz; clear hp)
          | fail)
        go_ret
        have hr : agreeF nd s m y = (putD s (votY y m), [backA nd m { zA with so := 1, vt := m.m.vt, vl := moreL s.xs m, fl := true }]) := by unfold agreeF; rw [show votesB s.xs m y = true from HVB.out]; rfl
        rw [hr]
        exact HO.out
      · have hvb : votesB s.xs m y = false := by rw [HVB.out, decide_eq_false h3]; simp
        replace HVB := hid hvb
        clear hvb
        go_wp2_with (first
          | ((with_reducible refine loadC (x := ?lx27) (b := w.heap.size + 1) (T := 67) y.e ?lg27 ?lo27 ?lxx27 ?lc27 ?lh27); (case lg27 => rfl); (case lo27 => rfl); (case lxx27 => rfl); (case lc27 => exact HE1.out))
          | (go_at_call 181; go_loud (refine (cReserve y.e m.m.vt _ (times_ok HOK.out.right)).mono ?_; rintro z w2 ⟨hz, hB⟩; rw [res_eq0 (full_parts HFU.out).1] at hz; subst hz; have HB2 := hid hB; have HR2 : Hid (Room w2 (w.heap.size + 1) 67) := hid (Ob.room (heapB HE1.out hB HL1.out)); clear hB))
          | ((with_reducible refine uponStore (e := (resY y m.m.vt).e) HR2.out ?_); intro w3 hO hU; have HO3 := hid hO; have HU3 := hid hU; clear hO hU)
          | fail)
        have HM3 : Hid (OM w3 w.heap.size m.m) := hid (HU3.out.ob (heapB HM1.out HB2.out (Nat.lt_of_succ_lt HL1.out)) (by omega))
        have HB3 : Hid (Below w.heap.size w w3) := hid ((HB1.out.trans (HB2.out.mono HB1.out.size)).trans (HU3.out.below w.heap.size (Nat.le_succ _)))
        have HR3 : Hid (Own w3 wa.heap.size (.slice ra 0 rc) (moreL s.xs m)) := hid (own_tch (own_below HVb.out HB2.out fun k hk => (HVb.out.lt k hk).2) HU3.out.tch (fun k hk hs => by have := (HVb.out.lt k hk).1; have := HWA.out; omega))
        have HOK3 : Hid (PutOk s (resY y m.m.vt)) := hid (res_put HOK.out (full_parts HFU.out).1)
        have HYL3 : Hid ((resY y m.m.vt).low B) := hid (res_low HYL.out)
        have HYA3 : Hid ((resY y m.m.vt).at w3) := hid (res_sl (HYA.out.on HB3.out))
        have HV3 := hid (HV.out.on HB3.out)
        have HNI : Hid (∀ k, w.heap.size ≤ k → ¬ TI x b b2 k) := hid fun k hk hT => by have := HV.out.lt k (.inr hT); omega
        clear HU3 HB2 HR2 HVb HE1 HM1 HB1 HL1 kb kf kt kp
        have HF : Hid (∀ W, Tch (TI x b b2) w3 W → W.cell? ⟨q, 0, none⟩ = some (ptr x)) := hid fun W hW => (cellAt' (hW.ob HV3.out.ob HV3.out.qi) 0).trans rfl
        refine rh_start (S := fun W => Tch (TI x b b2) w3 W) (n := 6) (listed := #[false, false, false, false, false, false]) (by kernel_rfl) rfl rfl ?_
        have HS0 : Hid (Tch (TI x b b2) w3 w3.drew) := hid (Tch.ofBelow (belowDrew (Below.refl _ w3)))
        have HVd := hid (HV3.out.on (belowDrew (Below.refl _ w3)))
        have HYd := hid (HYA3.out.on (belowDrew (Below.refl _ w3)))
        generalize w3.drew = wd3 at HS0 HVd HYd ⊢
        refine rh_takeS (i := 0) (o := ?o32) (v := ?v32) (listed' := ?l32) (a' := ?a32) ?hi32 (by kernel_rfl) (by kernel_rfl) (by kernel_rfl) ?hq32 ?hl32 ?hw32 ?hv32 ?ha32 HS0.out ?hh32
        case hi32 => (simp only [List.getElem?_toArray, List.getElem?_cons_zero]; try rfl)
        case hq32 => exact fun _ _ _ h => h
        case hl32 => (simp only [List.setIfInBounds_toArray, List.set_cons_zero]; try rfl)
        case hw32 => rfl
        case hv32 =>
          intro W hW
          have k0 := HF.out W hW
          go_simp
          try with_reducible rfl
        case ha32 => (simp only [Act.put, List.setIfInBounds_toArray, List.set_cons_succ, List.set_cons_zero]; try rfl)
        refine rh_takeS (i := 1) (o := ?o33) (v := ?v33) (listed' := ?l33) (a' := ?a33) ?hi33 (by kernel_rfl) (by kernel_rfl) (by kernel_rfl) ?hq33 ?hl33 ?hw33 ?hv33 ?ha33 HS0.out ?hh33
        case hi33 => (simp only [List.getElem?_toArray, List.getElem?_cons_succ, List.getElem?_cons_zero]; try rfl)
        case hq33 => exact fun _ _ _ h => h
        case hl33 => (simp only [List.setIfInBounds_toArray, List.set_cons_succ, List.set_cons_zero]; try rfl)
        case hw33 => rfl
        case hv33 =>
          intro W hW
          have k0 := HF.out W hW
          go_simp
          try with_reducible rfl
        case ha33 => (simp only [Act.put, List.setIfInBounds_toArray, List.set_cons_succ, List.set_cons_zero]; try rfl)
        refine rh_takeS (i := 2) (o := ?o34) (v := ?v34) (listed' := ?l34) (a' := ?a34) ?hi34 (by kernel_rfl) (by kernel_rfl) (by kernel_rfl) ?hq34 ?hl34 ?hw34 ?hv34 ?ha34 HS0.out ?hh34
        case hi34 => (simp only [List.getElem?_toArray, List.getElem?_cons_succ, List.getElem?_cons_zero]; try rfl)
        case hq34 => exact fun _ _ _ h => h
        case hl34 => (simp only [List.setIfInBounds_toArray, List.set_cons_succ, List.set_cons_zero]; try rfl)
        case hw34 => rfl
        case hv34 =>
          intro W hW
          have k0 := HF.out W hW
          go_simp
          try with_reducible rfl
        case ha34 => (simp only [Act.put, List.setIfInBounds_toArray, List.set_cons_succ, List.set_cons_zero]; try rfl)
        refine rh_takeS (i := 3) (o := ?o35) (v := ?v35) (listed' := ?l35) (a' := ?a35) ?hi35 (by kernel_rfl) (by kernel_rfl) (by kernel_rfl) ?hq35 ?hl35 ?hw35 ?hv35 ?ha35 HS0.out ?hh35
        case hi35 => (simp only [List.getElem?_toArray, List.getElem?_cons_succ, List.getElem?_cons_zero]; try rfl)
        case hq35 => exact fun _ _ _ h => h
        case hl35 => (simp only [List.setIfInBounds_toArray, List.set_cons_succ, List.set_cons_zero]; try rfl)
        case hw35 => rfl
        case hv35 =>
          intro W hW
          have k0 := HF.out W hW
          go_simp
          try with_reducible rfl
        case ha35 => (simp only [Act.put, List.setIfInBounds_toArray, List.set_cons_succ, List.set_cons_zero]; try rfl)
        refine rh_load (i := 4) (o := ?o36) (cs := (resY y m.m.vt).e.list) (T := 67) (x := ?x36) (b := ?b36) (q := ?q36) (listed' := ?l36) (a' := ?a36) ?hi36 (by kernel_rfl) (by kernel_rfl) (by kernel_rfl) ?hq36 ?hl36 ?hg36 ?ho36 ?hx36 ?hc36 Tryz.underlying67 rfl (infoEc (resY y m.m.vt).e) ?ha36 HS0.out ?hh36
        case hi36 => (simp only [List.getElem?_toArray, List.getElem?_cons_succ, List.getElem?_cons_zero]; try rfl)
        case hq36 => exact fun _ _ _ h => h
        case hl36 => (simp only [List.setIfInBounds_toArray, List.set_cons_succ, List.set_cons_zero]; try rfl)
        case hg36 => rfl
        case ho36 => rfl
        case hx36 => rfl
        case hc36 => exact fun W hW => Ob.range (T := 67) (e := (resY y m.m.vt).e) (hW.ob HO3.out (HNI.out _ (Nat.le_succ _)))
        case ha36 => (show Act.put _ _ (Value.agg (resY y m.m.vt).e.arr) = _); (simp only [Act.put, List.setIfInBounds_toArray, List.set_cons_succ, List.set_cons_zero]; try rfl)
        refine wpAnyH_ready (rs := [5]) (by kernel_rfl) (by simp) ?_
        refine rh_cons (i := 5) (o := ?o37) (listed' := ?l37) ?hi37 ?hl37 ?hg37 ?hh37 ?hs37
        case hi37 => (simp only [List.getElem?_toArray, List.getElem?_cons_succ, List.getElem?_cons_zero]; try rfl)
        case hl37 => (simp only [List.setIfInBounds_toArray, List.set_cons_succ, List.set_cons_zero]; try rfl)
        case hg37 => rfl
        case hs37 => exact AllReadyH.nil
        intro K hK
        go_simp
        refine (cPutV HVd.out HN.out HYd.out HYL3.out HOK3.out).mono ?_
        rintro z w4 ⟨rfl, hV4, hT4⟩
        have HS4 := hid (HS0.out.trans hT4)
        have HV4 := hid hV4
        clear hV4 hT4
        refine hK.out _ _ HS4.out ?_
        clear hK K
        refine wpAnyH_done (by kernel_rfl) ?_ _
        have HM4 : Hid (OM w4 w.heap.size m.m) := hid (HS4.out.ob HM3.out (HNI.out _ (Nat.le_refl _)))
        have HR4 : Hid (SetF B w4 (.slice ra 0 rc) (moreL s.xs m)) := hid ((Own.slT HR3.out).setF.tch HS4.out fun k hk => .inl (HV3.out.nocell k (.inr hk)))
        have HT4 : Hid (Tch (TV q x b b2) w w4) := hid ((Tch.ofBelow HB3.out).trans (tch_i HS4.out))
        clear HF HS0 HVd HYd HYA3 HV3 HR3 HO3 HM3 HB3 HOK3
        have kt : w4.cell? ⟨w.heap.size, 11, none⟩ = some (.int .i64 m.m.vt) := HM4.out.cell rfl
        go_wp2_with (first
          | ((with_reducible refine loadM (x := ?lx28) (b := w.heap.size) m.m ?lg28 ?lo28 ?lxx28 ?lc28 ?lh28); (case lg28 => rfl); (case lo28 => rfl); (case lxx28 => rfl); (case lc28 => exact HM4.out))
          | ((with_reducible refine wpList_buildOk (x := ?bx29) (y := ?by29) m.m.vt ⟨ra, 0, rc⟩ false ?bg29 ?bo29 ?be29 ?bf29 ?bh29); (case bg29 => rfl); (case bo29 => rfl); (case be29 => rfl); (case bf29 => rfl))
          | (go_at_call 73; refine (cBackV HV4.out m.m { zM with so := 1, vt := m.m.vt, vp := ⟨ra, 0, rc⟩, fl := false }).mono ?_; intro z w5 hp; have HO := hid (OutD.back (m := m) _ [] [] hp HV4.out HT4.out HR4.out (nilF _ _) (nilF _ _)); obtain ⟨vz, hvz⟩ : ∃ v, z = .returned v := (by obtain ⟨v, e, _⟩ := hp; exact ⟨v, e⟩); subst hvz; clear hp)
          | fail)
        go_ret
        have hr : agreeF nd s m y = (putD s (resY y m.m.vt), [backA nd m { zA with so := 1, vt := m.m.vt, vl := moreL s.xs m, fl := false }]) := by unfold agreeF; rw [show votesB s.xs m y = false from HVB.out]; rfl
        rw [hr]
        exact HO.out
    · have hvb : votesB s.xs m y = false := by rw [HVB.out, decide_eq_false h2]; simp
      replace HVB := hid hvb
      clear hvb
      go_wp2_with (first
        | ((with_reducible refine loadC (x := ?lx38) (b := w.heap.size + 1) (T := 67) y.e ?lg38 ?lo38 ?lxx38 ?lc38 ?lh38); (case lg38 => rfl); (case lo38 => rfl); (case lxx38 => rfl); (case lc38 => exact HE1.out))
        | (go_at_call 181; go_loud (refine (cReserve y.e m.m.vt _ (times_ok HOK.out.right)).mono ?_; rintro z w2 ⟨hz, hB⟩; rw [res_eq0 (full_parts HFU.out).1] at hz; subst hz; have HB2 := hid hB; have HR2 : Hid (Room w2 (w.heap.size + 1) 67) := hid (Ob.room (heapB HE1.out hB HL1.out)); clear hB))
        | ((with_reducible refine uponStore (e := (resY y m.m.vt).e) HR2.out ?_); intro w3 hO hU; have HO3 := hid hO; have HU3 := hid hU; clear hO hU)
        | fail)
      have HM3 : Hid (OM w3 w.heap.size m.m) := hid (HU3.out.ob (heapB HM1.out HB2.out (Nat.lt_of_succ_lt HL1.out)) (by omega))
      have HB3 : Hid (Below w.heap.size w w3) := hid ((HB1.out.trans (HB2.out.mono HB1.out.size)).trans (HU3.out.below w.heap.size (Nat.le_succ _)))
      have HR3 : Hid (Own w3 wa.heap.size (.slice ra rn rc) (moreL s.xs m)) := hid (own_tch (own_below HVb.out HB2.out fun k hk => (HVb.out.lt k hk).2) HU3.out.tch (fun k hk hs => by have := (HVb.out.lt k hk).1; have := HWA.out; omega))
      have HOK3 : Hid (PutOk s (resY y m.m.vt)) := hid (res_put HOK.out (full_parts HFU.out).1)
      have HYL3 : Hid ((resY y m.m.vt).low B) := hid (res_low HYL.out)
      have HYA3 : Hid ((resY y m.m.vt).at w3) := hid (res_sl (HYA.out.on HB3.out))
      have HV3 := hid (HV.out.on HB3.out)
      have HNI : Hid (∀ k, w.heap.size ≤ k → ¬ TI x b b2 k) := hid fun k hk hT => by have := HV.out.lt k (.inr hT); omega
      clear HU3 HB2 HR2 HVb HE1 HM1 HB1 HL1 kb kf kt kp
      have HF : Hid (∀ W, Tch (TI x b b2) w3 W → W.cell? ⟨q, 0, none⟩ = some (ptr x)) := hid fun W hW => (cellAt' (hW.ob HV3.out.ob HV3.out.qi) 0).trans rfl
      refine rh_start (S := fun W => Tch (TI x b b2) w3 W) (n := 6) (listed := #[false, false, false, false, false, false]) (by kernel_rfl) rfl rfl ?_
      have HS0 : Hid (Tch (TI x b b2) w3 w3.drew) := hid (Tch.ofBelow (belowDrew (Below.refl _ w3)))
      have HVd := hid (HV3.out.on (belowDrew (Below.refl _ w3)))
      have HYd := hid (HYA3.out.on (belowDrew (Below.refl _ w3)))
      generalize w3.drew = wd3 at HS0 HVd HYd ⊢
      refine rh_takeS (i := 0) (o := ?o43) (v := ?v43) (listed' := ?l43) (a' := ?a43) ?hi43 (by kernel_rfl) (by kernel_rfl) (by kernel_rfl) ?hq43 ?hl43 ?hw43 ?hv43 ?ha43 HS0.out ?hh43
      case hi43 => (simp only [List.getElem?_toArray, List.getElem?_cons_zero]; try rfl)
      case hq43 => exact fun _ _ _ h => h
      case hl43 => (simp only [List.setIfInBounds_toArray, List.set_cons_zero]; try rfl)
      case hw43 => rfl
      case hv43 =>
        intro W hW
        have k0 := HF.out W hW
        go_simp
        try with_reducible rfl
      case ha43 => (simp only [Act.put, List.setIfInBounds_toArray, List.set_cons_succ, List.set_cons_zero]; try rfl)
      refine rh_takeS (i := 1) (o := ?o44) (v := ?v44) (listed' := ?l44) (a' := ?a44) ?hi44 (by kernel_rfl) (by kernel_rfl) (by kernel_rfl) ?hq44 ?hl44 ?hw44 ?hv44 ?ha44 HS0.out ?hh44
      case hi44 => (simp only [List.getElem?_toArray, List.getElem?_cons_succ, List.getElem?_cons_zero]; try rfl)
      case hq44 => exact fun _ _ _ h => h
      case hl44 => (simp only [List.setIfInBounds_toArray, List.set_cons_succ, List.set_cons_zero]; try rfl)
      case hw44 => rfl
      case hv44 =>
        intro W hW
        have k0 := HF.out W hW
        go_simp
        try with_reducible rfl
      case ha44 => (simp only [Act.put, List.setIfInBounds_toArray, List.set_cons_succ, List.set_cons_zero]; try rfl)
      refine rh_takeS (i := 2) (o := ?o45) (v := ?v45) (listed' := ?l45) (a' := ?a45) ?hi45 (by kernel_rfl) (by kernel_rfl) (by kernel_rfl) ?hq45 ?hl45 ?hw45 ?hv45 ?ha45 HS0.out ?hh45
      case hi45 => (simp only [List.getElem?_toArray, List.getElem?_cons_succ, List.getElem?_cons_zero]; try rfl)
      case hq45 => exact fun _ _ _ h => h
      case hl45 => (simp only [List.setIfInBounds_toArray, List.set_cons_succ, List.set_cons_zero]; try rfl)
      case hw45 => rfl
      case hv45 =>
        intro W hW
        have k0 := HF.out W hW
        go_simp
        try with_reducible rfl
      case ha45 => (simp only [Act.put, List.setIfInBounds_toArray, List.set_cons_succ, List.set_cons_zero]; try rfl)
      refine rh_takeS (i := 3) (o := ?o46) (v := ?v46) (listed' := ?l46) (a' := ?a46) ?hi46 (by kernel_rfl) (by kernel_rfl) (by kernel_rfl) ?hq46 ?hl46 ?hw46 ?hv46 ?ha46 HS0.out ?hh46
      case hi46 => (simp only [List.getElem?_toArray, List.getElem?_cons_succ, List.getElem?_cons_zero]; try rfl)
      case hq46 => exact fun _ _ _ h => h
      case hl46 => (simp only [List.setIfInBounds_toArray, List.set_cons_succ, List.set_cons_zero]; try rfl)
      case hw46 => rfl
      case hv46 =>
        intro W hW
        have k0 := HF.out W hW
        go_simp
        try with_reducible rfl
      case ha46 => (simp only [Act.put, List.setIfInBounds_toArray, List.set_cons_succ, List.set_cons_zero]; try rfl)
      refine rh_load (i := 4) (o := ?o47) (cs := (resY y m.m.vt).e.list) (T := 67) (x := ?x47) (b := ?b47) (q := ?q47) (listed' := ?l47) (a' := ?a47) ?hi47 (by kernel_rfl) (by kernel_rfl) (by kernel_rfl) ?hq47 ?hl47 ?hg47 ?ho47 ?hx47 ?hc47 Tryz.underlying67 rfl (infoEc (resY y m.m.vt).e) ?ha47 HS0.out ?hh47
      case hi47 => (simp only [List.getElem?_toArray, List.getElem?_cons_succ, List.getElem?_cons_zero]; try rfl)
      case hq47 => exact fun _ _ _ h => h
      case hl47 => (simp only [List.setIfInBounds_toArray, List.set_cons_succ, List.set_cons_zero]; try rfl)
      case hg47 => rfl
      case ho47 => rfl
      case hx47 => rfl
      case hc47 => exact fun W hW => Ob.range (T := 67) (e := (resY y m.m.vt).e) (hW.ob HO3.out (HNI.out _ (Nat.le_succ _)))
      case ha47 => (show Act.put _ _ (Value.agg (resY y m.m.vt).e.arr) = _); (simp only [Act.put, List.setIfInBounds_toArray, List.set_cons_succ, List.set_cons_zero]; try rfl)
      refine wpAnyH_ready (rs := [5]) (by kernel_rfl) (by simp) ?_
      refine rh_cons (i := 5) (o := ?o48) (listed' := ?l48) ?hi48 ?hl48 ?hg48 ?hh48 ?hs48
      case hi48 => (simp only [List.getElem?_toArray, List.getElem?_cons_succ, List.getElem?_cons_zero]; try rfl)
      case hl48 => (simp only [List.setIfInBounds_toArray, List.set_cons_succ, List.set_cons_zero]; try rfl)
      case hg48 => rfl
      case hs48 => exact AllReadyH.nil
      intro K hK
      go_simp
      refine (cPutV HVd.out HN.out HYd.out HYL3.out HOK3.out).mono ?_
      rintro z w4 ⟨rfl, hV4, hT4⟩
      have HS4 := hid (HS0.out.trans hT4)
      have HV4 := hid hV4
      clear hV4 hT4
      refine hK.out _ _ HS4.out ?_
      clear hK K
      refine wpAnyH_done (by kernel_rfl) ?_ _
      have HM4 : Hid (OM w4 w.heap.size m.m) := hid (HS4.out.ob HM3.out (HNI.out _ (Nat.le_refl _)))
      have HR4 : Hid (SetF B w4 (.slice ra rn rc) (moreL s.xs m)) := hid ((Own.slT HR3.out).setF.tch HS4.out fun k hk => .inl (HV3.out.nocell k (.inr hk)))
      have HT4 : Hid (Tch (TV q x b b2) w w4) := hid ((Tch.ofBelow HB3.out).trans (tch_i HS4.out))
      clear HF HS0 HVd HYd HYA3 HV3 HR3 HO3 HM3 HB3 HOK3
      have kt : w4.cell? ⟨w.heap.size, 11, none⟩ = some (.int .i64 m.m.vt) := HM4.out.cell rfl
      go_wp2_with (first
        | ((with_reducible refine loadM (x := ?lx39) (b := w.heap.size) m.m ?lg39 ?lo39 ?lxx39 ?lc39 ?lh39); (case lg39 => rfl); (case lo39 => rfl); (case lxx39 => rfl); (case lc39 => exact HM4.out))
        | ((with_reducible refine wpList_buildOk (x := ?bx40) (y := ?by40) m.m.vt ⟨ra, rn, rc⟩ false ?bg40 ?bo40 ?be40 ?bf40 ?bh40); (case bg40 => rfl); (case bo40 => rfl); (case be40 => rfl); (case bf40 => rfl))
        | (go_at_call 73; refine (cBackV HV4.out m.m { zM with so := 1, vt := m.m.vt, vp := ⟨ra, rn, rc⟩, fl := false }).mono ?_; intro z w5 hp; have HO := hid (OutD.back (m := m) _ [] [] hp HV4.out HT4.out HR4.out (nilF _ _) (nilF _ _)); obtain ⟨vz, hvz⟩ : ∃ v, z = .returned v := (by obtain ⟨v, e, _⟩ := hp; exact ⟨v, e⟩); subst hvz; clear hp)
        | fail)
      go_ret
      have hr : agreeF nd s m y = (putD s (resY y m.m.vt), [backA nd m { zA with so := 1, vt := m.m.vt, vl := moreL s.xs m, fl := false }]) := by unfold agreeF; rw [show votesB s.xs m y = false from HVB.out]; rfl
      rw [hr]
      exact HO.out
  · have hvb : votesB s.xs m y = false := by rw [HVB.out, decide_eq_false h1]; simp
    replace HVB := hid hvb
    clear hvb
    go_wp2_with (first
      | ((with_reducible refine loadC (x := ?lx49) (b := w.heap.size + 1) (T := 67) y.e ?lg49 ?lo49 ?lxx49 ?lc49 ?lh49); (case lg49 => rfl); (case lo49 => rfl); (case lxx49 => rfl); (case lc49 => exact HE1.out))
      | (go_at_call 181; go_loud (refine (cReserve y.e m.m.vt _ (times_ok HOK.out.right)).mono ?_; rintro z w2 ⟨hz, hB⟩; rw [res_eq0 (full_parts HFU.out).1] at hz; subst hz; have HB2 := hid hB; have HR2 : Hid (Room w2 (w.heap.size + 1) 67) := hid (Ob.room (heapB HE1.out hB HL1.out)); clear hB))
      | ((with_reducible refine uponStore (e := (resY y m.m.vt).e) HR2.out ?_); intro w3 hO hU; have HO3 := hid hO; have HU3 := hid hU; clear hO hU)
      | fail)
    have HM3 : Hid (OM w3 w.heap.size m.m) := hid (HU3.out.ob (heapB HM1.out HB2.out (Nat.lt_of_succ_lt HL1.out)) (by omega))
    have HB3 : Hid (Below w.heap.size w w3) := hid ((HB1.out.trans (HB2.out.mono HB1.out.size)).trans (HU3.out.below w.heap.size (Nat.le_succ _)))
    have HR3 : Hid (Own w3 wa.heap.size (.slice ra rn rc) (moreL s.xs m)) := hid (own_tch (own_below HVb.out HB2.out fun k hk => (HVb.out.lt k hk).2) HU3.out.tch (fun k hk hs => by have := (HVb.out.lt k hk).1; have := HWA.out; omega))
    have HOK3 : Hid (PutOk s (resY y m.m.vt)) := hid (res_put HOK.out (full_parts HFU.out).1)
    have HYL3 : Hid ((resY y m.m.vt).low B) := hid (res_low HYL.out)
    have HYA3 : Hid ((resY y m.m.vt).at w3) := hid (res_sl (HYA.out.on HB3.out))
    have HV3 := hid (HV.out.on HB3.out)
    have HNI : Hid (∀ k, w.heap.size ≤ k → ¬ TI x b b2 k) := hid fun k hk hT => by have := HV.out.lt k (.inr hT); omega
    clear HU3 HB2 HR2 HVb HE1 HM1 HB1 HL1 kb kf kt kp
    have HF : Hid (∀ W, Tch (TI x b b2) w3 W → W.cell? ⟨q, 0, none⟩ = some (ptr x)) := hid fun W hW => (cellAt' (hW.ob HV3.out.ob HV3.out.qi) 0).trans rfl
    refine rh_start (S := fun W => Tch (TI x b b2) w3 W) (n := 6) (listed := #[false, false, false, false, false, false]) (by kernel_rfl) rfl rfl ?_
    have HS0 : Hid (Tch (TI x b b2) w3 w3.drew) := hid (Tch.ofBelow (belowDrew (Below.refl _ w3)))
    have HVd := hid (HV3.out.on (belowDrew (Below.refl _ w3)))
    have HYd := hid (HYA3.out.on (belowDrew (Below.refl _ w3)))
    generalize w3.drew = wd3 at HS0 HVd HYd ⊢
    refine rh_takeS (i := 0) (o := ?o54) (v := ?v54) (listed' := ?l54) (a' := ?a54) ?hi54 (by kernel_rfl) (by kernel_rfl) (by kernel_rfl) ?hq54 ?hl54 ?hw54 ?hv54 ?ha54 HS0.out ?hh54
    case hi54 => (simp only [List.getElem?_toArray, List.getElem?_cons_zero]; try rfl)
    case hq54 => exact fun _ _ _ h => h
    case hl54 => (simp only [List.setIfInBounds_toArray, List.set_cons_zero]; try rfl)
    case hw54 => rfl
    case hv54 =>
      intro W hW
      have k0 := HF.out W hW
      go_simp
      try with_reducible rfl
    case ha54 => (simp only [Act.put, List.setIfInBounds_toArray, List.set_cons_succ, List.set_cons_zero]; try rfl)
    refine rh_takeS (i := 1) (o := ?o55) (v := ?v55) (listed' := ?l55) (a' := ?a55) ?hi55 (by kernel_rfl) (by kernel_rfl) (by kernel_rfl) ?hq55 ?hl55 ?hw55 ?hv55 ?ha55 HS0.out ?hh55
    case hi55 => (simp only [List.getElem?_toArray, List.getElem?_cons_succ, List.getElem?_cons_zero]; try rfl)
    case hq55 => exact fun _ _ _ h => h
    case hl55 => (simp only [List.setIfInBounds_toArray, List.set_cons_succ, List.set_cons_zero]; try rfl)
    case hw55 => rfl
    case hv55 =>
      intro W hW
      have k0 := HF.out W hW
      go_simp
      try with_reducible rfl
    case ha55 => (simp only [Act.put, List.setIfInBounds_toArray, List.set_cons_succ, List.set_cons_zero]; try rfl)
    refine rh_takeS (i := 2) (o := ?o56) (v := ?v56) (listed' := ?l56) (a' := ?a56) ?hi56 (by kernel_rfl) (by kernel_rfl) (by kernel_rfl) ?hq56 ?hl56 ?hw56 ?hv56 ?ha56 HS0.out ?hh56
    case hi56 => (simp only [List.getElem?_toArray, List.getElem?_cons_succ, List.getElem?_cons_zero]; try rfl)
    case hq56 => exact fun _ _ _ h => h
    case hl56 => (simp only [List.setIfInBounds_toArray, List.set_cons_succ, List.set_cons_zero]; try rfl)
    case hw56 => rfl
    case hv56 =>
      intro W hW
      have k0 := HF.out W hW
      go_simp
      try with_reducible rfl
    case ha56 => (simp only [Act.put, List.setIfInBounds_toArray, List.set_cons_succ, List.set_cons_zero]; try rfl)
    refine rh_takeS (i := 3) (o := ?o57) (v := ?v57) (listed' := ?l57) (a' := ?a57) ?hi57 (by kernel_rfl) (by kernel_rfl) (by kernel_rfl) ?hq57 ?hl57 ?hw57 ?hv57 ?ha57 HS0.out ?hh57
    case hi57 => (simp only [List.getElem?_toArray, List.getElem?_cons_succ, List.getElem?_cons_zero]; try rfl)
    case hq57 => exact fun _ _ _ h => h
    case hl57 => (simp only [List.setIfInBounds_toArray, List.set_cons_succ, List.set_cons_zero]; try rfl)
    case hw57 => rfl
    case hv57 =>
      intro W hW
      have k0 := HF.out W hW
      go_simp
      try with_reducible rfl
    case ha57 => (simp only [Act.put, List.setIfInBounds_toArray, List.set_cons_succ, List.set_cons_zero]; try rfl)
    refine rh_load (i := 4) (o := ?o58) (cs := (resY y m.m.vt).e.list) (T := 67) (x := ?x58) (b := ?b58) (q := ?q58) (listed' := ?l58) (a' := ?a58) ?hi58 (by kernel_rfl) (by kernel_rfl) (by kernel_rfl) ?hq58 ?hl58 ?hg58 ?ho58 ?hx58 ?hc58 Tryz.underlying67 rfl (infoEc (resY y m.m.vt).e) ?ha58 HS0.out ?hh58
    case hi58 => (simp only [List.getElem?_toArray, List.getElem?_cons_succ, List.getElem?_cons_zero]; try rfl)
    case hq58 => exact fun _ _ _ h => h
    case hl58 => (simp only [List.setIfInBounds_toArray, List.set_cons_succ, List.set_cons_zero]; try rfl)
    case hg58 => rfl
    case ho58 => rfl
    case hx58 => rfl
    case hc58 => exact fun W hW => Ob.range (T := 67) (e := (resY y m.m.vt).e) (hW.ob HO3.out (HNI.out _ (Nat.le_succ _)))
    case ha58 => (show Act.put _ _ (Value.agg (resY y m.m.vt).e.arr) = _); (simp only [Act.put, List.setIfInBounds_toArray, List.set_cons_succ, List.set_cons_zero]; try rfl)
    refine wpAnyH_ready (rs := [5]) (by kernel_rfl) (by simp) ?_
    refine rh_cons (i := 5) (o := ?o59) (listed' := ?l59) ?hi59 ?hl59 ?hg59 ?hh59 ?hs59
    case hi59 => (simp only [List.getElem?_toArray, List.getElem?_cons_succ, List.getElem?_cons_zero]; try rfl)
    case hl59 => (simp only [List.setIfInBounds_toArray, List.set_cons_succ, List.set_cons_zero]; try rfl)
    case hg59 => rfl
    case hs59 => exact AllReadyH.nil
    intro K hK
    go_simp
    refine (cPutV HVd.out HN.out HYd.out HYL3.out HOK3.out).mono ?_
    rintro z w4 ⟨rfl, hV4, hT4⟩
    have HS4 := hid (HS0.out.trans hT4)
    have HV4 := hid hV4
    clear hV4 hT4
    refine hK.out _ _ HS4.out ?_
    clear hK K
    refine wpAnyH_done (by kernel_rfl) ?_ _
    have HM4 : Hid (OM w4 w.heap.size m.m) := hid (HS4.out.ob HM3.out (HNI.out _ (Nat.le_refl _)))
    have HR4 : Hid (SetF B w4 (.slice ra rn rc) (moreL s.xs m)) := hid ((Own.slT HR3.out).setF.tch HS4.out fun k hk => .inl (HV3.out.nocell k (.inr hk)))
    have HT4 : Hid (Tch (TV q x b b2) w w4) := hid ((Tch.ofBelow HB3.out).trans (tch_i HS4.out))
    clear HF HS0 HVd HYd HYA3 HV3 HR3 HO3 HM3 HB3 HOK3
    have kt : w4.cell? ⟨w.heap.size, 11, none⟩ = some (.int .i64 m.m.vt) := HM4.out.cell rfl
    go_wp2_with (first
      | ((with_reducible refine loadM (x := ?lx50) (b := w.heap.size) m.m ?lg50 ?lo50 ?lxx50 ?lc50 ?lh50); (case lg50 => rfl); (case lo50 => rfl); (case lxx50 => rfl); (case lc50 => exact HM4.out))
      | ((with_reducible refine wpList_buildOk (x := ?bx51) (y := ?by51) m.m.vt ⟨ra, rn, rc⟩ false ?bg51 ?bo51 ?be51 ?bf51 ?bh51); (case bg51 => rfl); (case bo51 => rfl); (case be51 => rfl); (case bf51 => rfl))
      | (go_at_call 73; refine (cBackV HV4.out m.m { zM with so := 1, vt := m.m.vt, vp := ⟨ra, rn, rc⟩, fl := false }).mono ?_; intro z w5 hp; have HO := hid (OutD.back (m := m) _ [] [] hp HV4.out HT4.out HR4.out (nilF _ _) (nilF _ _)); obtain ⟨vz, hvz⟩ : ∃ v, z = .returned v := (by obtain ⟨v, e, _⟩ := hp; exact ⟨v, e⟩); subst hvz; clear hp)
      | fail)
    go_ret
    have hr : agreeF nd s m y = (putD s (resY y m.m.vt), [backA nd m { zA with so := 1, vt := m.m.vt, vl := moreL s.xs m, fl := false }]) := by unfold agreeF; rw [show votesB s.xs m y = false from HVB.out]; rfl
    rw [hr]
    exact HO.out
end Go.Proofs.YtlehcaacfgocaaaGreat
