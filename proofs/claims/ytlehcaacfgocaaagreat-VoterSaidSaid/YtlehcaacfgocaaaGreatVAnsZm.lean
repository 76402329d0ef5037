import Derived.Test.YtlehcaacfgocaaaGreatVPropZm
namespace Go.Proofs.YtlehcaacfgocaaaGreat
set_option linter.unusedVariables false
open Go.RowKit
open Go.Lib (hid)
theorem cGetV {w : World} {B : Bd} {q x b b2 N : Nat} {nd : Int} {s : Sd} {wv : Value} {ws : List Ms} (h : Vo w B q x b b2 N nd s wv ws) {i : Int} (hw : (Lit.int .i64 i).wf = true) : Calls Tryz.prog 21 #[ptr x, .int .i64 i] w fun e w' => e = .returned (.tuple #[.agg (lookE s.xs i).arr, .bool (hasE s.xs i)]) ∧ Below w.heap.size w w' := by
  obtain ⟨n, ids, hn, hv⟩ := h.ix
  exact cGet hv.ix hw
def AnsPost (w : World) (B : Bd) (q x b b2 N : Nat) (nd : Int) (s : Sd) (wv : Value) (ws : List Ms) (m : Ms) (y : En) (Post : Ending → World → Prop) (e : Ending) (w' : World) : Prop :=
  if m.m.so ≠ 7 ∧ y.e.dn = true then OutD w B q x b b2 N nd wv ws (s, [backA nd m { zA with so := 7, vt := y.e.vt, vl := y.v }]) e w'
  else if m.m.so ≠ 7 ∧ m.m.bal < y.e.pr then OutD w B q x b b2 N nd wv ws (s, [backA nd m { zA with so := 8, ab := y.e.pr }]) e w'
  else Post e w'
set_option maxRecDepth 100000 in
theorem run_buildSt (t : Int) (p : Sv) (w : World) : (Instr.build 50 #[(0, .int .i64 7), (5, .agg #[.int .i64 t, p.v])]).run Tryz.prog w = .ok (.agg ({ zM with so := 7, vt := t, vp := p } : Mg).arr) w := by kernel_rfl
theorem wpList_buildSt {ops : Array Oper} {rest : List Oper} {op : Oper} {a : Act} {w : World} {Q : Exit → Act → World → Prop} {x : Operand} (t : Int) (p : Sv) (hgd : op.guard = none) (ho : op.op = .build 50 #[(0, .const (.int .i64 7)), (5, x)]) (hx : a.eval x = .agg #[.int .i64 t, p.v])
    (h : wpList Tryz.prog ops Q rest (a.put op.dst (.agg ({ zM with so := 7, vt := t, vp := p } : Mg).arr)) w) : wpList Tryz.prog ops Q (op :: rest) a w := by
  refine wpList_plain hgd fun _ hK' => ?_
  unfold Oper.wp execOp
  have hb := run_buildSt t p w
  have hc : a.eval (.const (.int .i64 7)) = .int .i64 7 := rfl
  simp only [ho, List.map_toArray, List.map_cons, List.map_nil, hx, hc, Sem.run_bind]
  rw [hb]
  simp only [Result.andThen_ok]
  exact hK' _ _ h
set_option maxRecDepth 100000 in
theorem run_buildRe (b : Int) (w : World) : (Instr.build 50 #[(0, .int .i64 8), (8, .int .i64 b)]).run Tryz.prog w = .ok (.agg ({ zM with so := 8, ab := b } : Mg).arr) w := by kernel_rfl
theorem wpList_buildRe {ops : Array Oper} {rest : List Oper} {op : Oper} {a : Act} {w : World} {Q : Exit → Act → World → Prop} {x : Operand} (b : Int) (hgd : op.guard = none) (ho : op.op = .build 50 #[(0, .const (.int .i64 8)), (8, x)]) (hx : a.eval x = .int .i64 b)
    (h : wpList Tryz.prog ops Q rest (a.put op.dst (.agg ({ zM with so := 8, ab := b } : Mg).arr)) w) : wpList Tryz.prog ops Q (op :: rest) a w := by
  refine wpList_plain hgd fun _ hK' => ?_
  unfold Oper.wp execOp
  have hb := run_buildRe b w
  have hc : a.eval (.const (.int .i64 8)) = .int .i64 8 := rfl
  simp only [ho, List.map_toArray, List.map_cons, List.map_nil, hx, hc, Sem.run_bind]
  rw [hb]
  simp only [Result.andThen_ok]
  exact hK' _ _ h
set_option maxHeartbeats 32000000 in
set_option maxRecDepth 100000 in
theorem cAnswerG {w : World} {B : Bd} {q x b b2 N : Nat} {nd : Int} {s : Sd} {wv : Value} {ws : List Ms} (h : Vo w B q x b b2 N nd s wv ws) {m : Ms} {y : En} (hy : lookG En.id s.xs m.m.c.i = some y) (hw : (Lit.int .i64 m.m.c.i).wf = true) {g : FuncId} {Post : Ending → World → Prop} (eg : ∀ args W, (callFunc g args).run Tryz.prog W = .ok (.enter g args) W)
    (hret : ∀ e w', Post e w' → ∃ v, e = .returned v) (hT : (m.m.so ≠ 7 → ¬ m.m.bal < y.e.pr) → ∀ W, Below w.heap.size w W → Calls Tryz.prog g #[ptr q, .agg m.m.arr, .agg y.e.arr] W Post) :
    Calls Tryz.prog 41 #[ptr q, .agg m.m.arr, .func (.func g) #[ptr q] #[]] w (AnsPost w B q x b b2 N nd s wv ws m y Post) := by
  have HB := hid (laid1_b w (.cells m.m.arr 50))
  have HM : Hid (OM (w.alloc (.cells m.m.arr 50)) w.heap.size m.m) := hid (laid1_0 w _)
  have HV := hid h
  have HTK := hid hT
  have HRT := hid hret
  have HLK := hid (show lookE s.xs m.m.c.i = y.e from (lookE_some hy).1)
  have HWF := hid hw
  have HYM := hid (look_key En.id s.xs _ y hy).2
  have hzz : (w.alloc (.cells m.m.arr 50)).heap.size = w.heap.size + 1 := by simp
  have HZ := hid hzz
  obtain ⟨hs, hhs⟩ : ∃ z, z = hasE s.xs m.m.c.i := ⟨_, rfl⟩
  have HHS := hid hhs
  clear h hT hret hy hw hzz hhs
  go_enter Tryz.func41, Tryz.ntmps41
  go_upto_region 1 with fail
  generalize (w.alloc (.cells m.m.arr 50)) = W0 at HB HM HZ ⊢
  go_cut [7, 8] from 9 to 19 (fun u7 u8 wx => ∃ p : Nat, u7 = .pointer (some ⟨p, 0, none⟩) ∧ u8 = .bool hs ∧ Hid (Below w.heap.size w wx ∧ OM wx w.heap.size m.m ∧ Ob wx p 67 y.e))
  case first =>
    have HF : Hid (∀ W, Below W0.heap.size W0 W → W.cell? ⟨q, 0, none⟩ = some (ptr x) ∧ W.cell? ⟨w.heap.size, 4, none⟩ = some (.int .i64 m.m.c.i)) := hid fun W hW => by
      have hm : OM W w.heap.size m.m := heapB HM.out hW (Array.getElem?_eq_some_iff.1 HM.out).1
      exact ⟨(HV.out.on (HB.out.trans (hW.mono HB.out.size))).cell0, hm.cell rfl⟩
    refine rh_start (S := fun W => Below W0.heap.size W0 W) (n := 14) (listed := #[false, false, false, false, false, false, false, false, false, false, false, false, false, false]) (by kernel_rfl) rfl rfl ?_
    have HS0 : Hid (Below W0.heap.size W0 W0.drew) := hid (belowDrew (Below.refl _ W0))
    generalize W0.drew = wd at HS0 ⊢
    refine rh_takeS (i := 0) (o := ?o1) (v := ?v1) (listed' := ?l1) (a' := ?a1) ?hi1 (by kernel_rfl) (by kernel_rfl) (by kernel_rfl) ?hq1 ?hl1 ?hw1 ?hv1 ?ha1 HS0.out ?hh1
    case hi1 => (simp only [List.getElem?_toArray, List.getElem?_cons_zero]; try rfl)
    case hq1 => exact fun _ _ _ h => h
    case hl1 => (simp only [List.setIfInBounds_toArray, List.set_cons_zero]; try rfl)
    case hw1 => rfl
    case hv1 =>
      intro W hW
      obtain ⟨k0, k1⟩ := HF.out W hW
      go_simp
      try with_reducible rfl
    case ha1 => (simp only [Act.put, List.setIfInBounds_toArray, List.set_cons_succ, List.set_cons_zero]; try rfl)
    refine rh_takeS (i := 1) (o := ?o2) (v := ?v2) (listed' := ?l2) (a' := ?a2) ?hi2 (by kernel_rfl) (by kernel_rfl) (by kernel_rfl) ?hq2 ?hl2 ?hw2 ?hv2 ?ha2 HS0.out ?hh2
    case hi2 => (simp only [List.getElem?_toArray, List.getElem?_cons_succ, List.getElem?_cons_zero]; try rfl)
    case hq2 => exact fun _ _ _ h => h
    case hl2 => (simp only [List.setIfInBounds_toArray, List.set_cons_succ, List.set_cons_zero]; try rfl)
    case hw2 => rfl
    case hv2 =>
      intro W hW
      obtain ⟨k0, k1⟩ := HF.out W hW
      go_simp
      try with_reducible rfl
    case ha2 => (simp only [Act.put, List.setIfInBounds_toArray, List.set_cons_succ, List.set_cons_zero]; try rfl)
    refine rh_takeS (i := 2) (o := ?o3) (v := ?v3) (listed' := ?l3) (a' := ?a3) ?hi3 (by kernel_rfl) (by kernel_rfl) (by kernel_rfl) ?hq3 ?hl3 ?hw3 ?hv3 ?ha3 HS0.out ?hh3
    case hi3 => (simp only [List.getElem?_toArray, List.getElem?_cons_succ, List.getElem?_cons_zero]; try rfl)
    case hq3 => exact fun _ _ _ h => h
    case hl3 => (simp only [List.setIfInBounds_toArray, List.set_cons_succ, List.set_cons_zero]; try rfl)
    case hw3 => rfl
    case hv3 =>
      intro W hW
      obtain ⟨k0, k1⟩ := HF.out W hW
      go_simp
      try with_reducible rfl
    case ha3 => (simp only [Act.put, List.setIfInBounds_toArray, List.set_cons_succ, List.set_cons_zero]; try rfl)
    refine rh_takeS (i := 3) (o := ?o4) (v := ?v4) (listed' := ?l4) (a' := ?a4) ?hi4 (by kernel_rfl) (by kernel_rfl) (by kernel_rfl) ?hq4 ?hl4 ?hw4 ?hv4 ?ha4 HS0.out ?hh4
    case hi4 => (simp only [List.getElem?_toArray, List.getElem?_cons_succ, List.getElem?_cons_zero]; try rfl)
    case hq4 => exact fun _ _ _ h => h
    case hl4 => (simp only [List.setIfInBounds_toArray, List.set_cons_succ, List.set_cons_zero]; try rfl)
    case hw4 => rfl
    case hv4 =>
      intro W hW
      obtain ⟨k0, k1⟩ := HF.out W hW
      go_simp
      try with_reducible rfl
    case ha4 => (simp only [Act.put, List.setIfInBounds_toArray, List.set_cons_succ, List.set_cons_zero]; try rfl)
    refine rh_takeS (i := 4) (o := ?o5) (v := ?v5) (listed' := ?l5) (a' := ?a5) ?hi5 (by kernel_rfl) (by kernel_rfl) (by kernel_rfl) ?hq5 ?hl5 ?hw5 ?hv5 ?ha5 HS0.out ?hh5
    case hi5 => (simp only [List.getElem?_toArray, List.getElem?_cons_succ, List.getElem?_cons_zero]; try rfl)
    case hq5 => exact fun _ _ _ h => h
    case hl5 => (simp only [List.setIfInBounds_toArray, List.set_cons_succ, List.set_cons_zero]; try rfl)
    case hw5 => rfl
    case hv5 =>
      intro W hW
      obtain ⟨k0, k1⟩ := HF.out W hW
      go_simp
      try with_reducible rfl
    case ha5 => (simp only [Act.put, List.setIfInBounds_toArray, List.set_cons_succ, List.set_cons_zero]; try rfl)
    refine rh_takeS (i := 5) (o := ?o6) (v := ?v6) (listed' := ?l6) (a' := ?a6) ?hi6 (by kernel_rfl) (by kernel_rfl) (by kernel_rfl) ?hq6 ?hl6 ?hw6 ?hv6 ?ha6 HS0.out ?hh6
    case hi6 => (simp only [List.getElem?_toArray, List.getElem?_cons_succ, List.getElem?_cons_zero]; try rfl)
    case hq6 => exact fun _ _ _ h => h
    case hl6 => (simp only [List.setIfInBounds_toArray, List.set_cons_succ, List.set_cons_zero]; try rfl)
    case hw6 => rfl
    case hv6 =>
      intro W hW
      obtain ⟨k0, k1⟩ := HF.out W hW
      go_simp
      try with_reducible rfl
    case ha6 => (simp only [Act.put, List.setIfInBounds_toArray, List.set_cons_succ, List.set_cons_zero]; try rfl)
    refine rh_takeS (i := 6) (o := ?o7) (v := ?v7) (listed' := ?l7) (a' := ?a7) ?hi7 (by kernel_rfl) (by kernel_rfl) (by kernel_rfl) ?hq7 ?hl7 ?hw7 ?hv7 ?ha7 HS0.out ?hh7
    case hi7 => (simp only [List.getElem?_toArray, List.getElem?_cons_succ, List.getElem?_cons_zero]; try rfl)
    case hq7 => exact fun _ _ _ h => h
    case hl7 => (simp only [List.setIfInBounds_toArray, List.set_cons_succ, List.set_cons_zero]; try rfl)
    case hw7 => rfl
    case hv7 =>
      intro W hW
      obtain ⟨k0, k1⟩ := HF.out W hW
      go_simp
      try with_reducible rfl
    case ha7 => (simp only [Act.put, List.setIfInBounds_toArray, List.set_cons_succ, List.set_cons_zero]; try rfl)
    refine wpAnyH_ready (rs := [7, 11]) (by kernel_rfl) (by simp) ?_
    refine rh_consW (i := 7) (o := ?o8) (listed' := ?l8) ?hi8 ?hl8 ?hg8 ?hh8 ?hs8
    case hi8 => (simp only [List.getElem?_toArray, List.getElem?_cons_succ, List.getElem?_cons_zero]; try rfl)
    case hl8 => (simp only [List.setIfInBounds_toArray, List.set_cons_succ, List.set_cons_zero]; try rfl)
    case hg8 => rfl
    case hh8 =>
      intro K hK
      go_simp
      refine (cGetV (HV.out.on (HB.out.trans (HS0.out.mono HB.out.size))) HWF.out).mono ?_
      rintro z wa1 ⟨hz, hB⟩
      rw [HLK.out, ← HHS.out] at hz
      subst hz
      have HS1 := hid (HS0.out.trans (hB.mono HS0.out.size))
      refine hK.out _ _ HS1.out ?_
      clear hK K
      refine rh_takeS (i := 8) (o := ?o9) (v := ?v9) (listed' := ?l9) (a' := ?a9) ?hi9 (by kernel_rfl) (by kernel_rfl) (by kernel_rfl) ?hq9 ?hl9 ?hw9 ?hv9 ?ha9 HS1.out ?hh9
      case hi9 => (simp only [List.getElem?_toArray, List.getElem?_cons_succ, List.getElem?_cons_zero]; try rfl)
      case hq9 => exact fun _ _ _ h => h
      case hl9 => (simp only [List.setIfInBounds_toArray, List.set_cons_succ, List.set_cons_zero]; try rfl)
      case hw9 => rfl
      case hv9 =>
        intro W hW
        skip
        go_simp
        try with_reducible rfl
      case ha9 => (simp only [Act.put, List.setIfInBounds_toArray, List.set_cons_succ, List.set_cons_zero]; try rfl)
      refine rh_takeS (i := 9) (o := ?o10) (v := ?v10) (listed' := ?l10) (a' := ?a10) ?hi10 (by kernel_rfl) (by kernel_rfl) (by kernel_rfl) ?hq10 ?hl10 ?hw10 ?hv10 ?ha10 HS1.out ?hh10
      case hi10 => (simp only [List.getElem?_toArray, List.getElem?_cons_succ, List.getElem?_cons_zero]; try rfl)
      case hq10 => exact fun _ _ _ h => h
      case hl10 => (simp only [List.setIfInBounds_toArray, List.set_cons_succ, List.set_cons_zero]; try rfl)
      case hw10 => rfl
      case hv10 =>
        intro W hW
        skip
        go_simp
        try with_reducible rfl
      case ha10 => (simp only [Act.put, List.setIfInBounds_toArray, List.set_cons_succ, List.set_cons_zero]; try rfl)
      refine rh_takeS (i := 10) (o := ?o11) (v := ?v11) (listed' := ?l11) (a' := ?a11) ?hi11 (by kernel_rfl) (by kernel_rfl) (by kernel_rfl) ?hq11 ?hl11 ?hw11 ?hv11 ?ha11 HS1.out ?hh11
      case hi11 => (simp only [List.getElem?_toArray, List.getElem?_cons_succ, List.getElem?_cons_zero]; try rfl)
      case hq11 => exact fun _ _ _ h => h
      case hl11 => (simp only [List.setIfInBounds_toArray, List.set_cons_succ, List.set_cons_zero]; try rfl)
      case hw11 => rfl
      case hv11 =>
        intro W hW
        skip
        go_simp
        try with_reducible rfl
      case ha11 => (simp only [Act.put, List.setIfInBounds_toArray, List.set_cons_succ, List.set_cons_zero]; try rfl)
      refine wpAnyH_ready (rs := [11]) (by kernel_rfl) (by simp) ?_
      refine rh_cons (i := 11) (o := ?o12) (listed' := ?l12) ?hi12 ?hl12 ?hg12 ?hh12 ?hs12
      case hi12 => (simp only [List.getElem?_toArray, List.getElem?_cons_succ, List.getElem?_cons_zero]; try rfl)
      case hl12 => (simp only [List.setIfInBounds_toArray, List.set_cons_succ, List.set_cons_zero]; try rfl)
      case hg12 => rfl
      case hs12 => exact AllReadyH.nil
      intro K hK
      go_simp
      have HS2 : Hid (Below W0.heap.size W0 (wa1.alloc zeroEc)) := hid (HS1.out.trans ((laid1_b wa1 zeroEc).mono HS1.out.size))
      have HZ2 : Hid ((wa1.alloc zeroEc).heap[wa1.heap.size]? = some zeroEc) := hid (laid1_0 wa1 zeroEc)
      have HLB2 : Hid (W0.heap.size ≤ wa1.heap.size) := hid HS1.out.size
      refine hK.out _ _ HS2.out ?_
      clear hK K
      refine wpAnyH_ready (rs := [12]) (by kernel_rfl) (by simp) ?_
      refine rh_storeN (i := 12) (o := ?o13) (listed' := ?l13) (x := ?x13) (y := ?y13) (b := wa1.heap.size) (T := 67) y.e.arr (infoEc' y.e) (Ev.one y.e) ?hi13 ?hl13 ?hg13 ?ho13 ?hx13 ?hy13 ?hd13 HZ2.out (by rw [Ev.size]; rfl) ?hh13 ?hs13
      case hi13 => (simp only [List.getElem?_toArray, List.getElem?_cons_succ, List.getElem?_cons_zero]; try rfl)
      case hl13 => (simp only [List.setIfInBounds_toArray, List.set_cons_succ, List.set_cons_zero]; try rfl)
      case hg13 => rfl
      case ho13 => rfl
      case hx13 => rfl
      case hy13 => rfl
      case hd13 => rfl
      case hs13 => exact AllReadyH.nil
      intro wq hO hU
      have HSq := hid (HS2.out.trans (hU.below _ HLB2.out))
      refine ⟨HSq.out, ?_⟩
      refine rh_takeS (i := 13) (o := ?o14) (v := ?v14) (listed' := ?l14) (a' := ?a14) ?hi14 (by kernel_rfl) (by kernel_rfl) (by kernel_rfl) ?hq14 ?hl14 ?hw14 ?hv14 ?ha14 HSq.out ?hh14
      case hi14 => (simp only [List.getElem?_toArray, List.getElem?_cons_succ, List.getElem?_cons_zero]; try rfl)
      case hq14 => exact fun _ _ _ h => h
      case hl14 => (simp only [List.setIfInBounds_toArray, List.set_cons_succ, List.set_cons_zero]; try rfl)
      case hw14 => rfl
      case hv14 =>
        intro W hW
        skip
        go_simp
        try with_reducible rfl
      case ha14 => (simp only [Act.put, List.setIfInBounds_toArray, List.set_cons_succ, List.set_cons_zero]; try rfl)
      refine wpAnyH_done (by kernel_rfl) ?_ _
      go_wp2_with fail
      go_meet
      exact ⟨_, rfl, rfl, hid ⟨HB.out.trans (HSq.out.mono HB.out.size), heapB HM.out HSq.out (Array.getElem?_eq_some_iff.1 HM.out).1, hO⟩⟩
    refine rh_cons (i := 11) (o := ?o15) (listed' := ?l15) ?hi15 ?hl15 ?hg15 ?hh15 ?hs15
    case hi15 => (simp only [List.getElem?_toArray, List.getElem?_cons_succ, List.getElem?_cons_zero]; try rfl)
    case hl15 => (simp only [List.setIfInBounds_toArray, List.set_cons_succ, List.set_cons_zero]; try rfl)
    case hg15 => rfl
    case hs15 => exact AllReadyH.nil
    intro K hK
    go_simp
    have HS3 : Hid (Below W0.heap.size W0 (wd.alloc zeroEc)) := hid (HS0.out.trans ((laid1_b wd zeroEc).mono HS0.out.size))
    have HZ3 : Hid ((wd.alloc zeroEc).heap[wd.heap.size]? = some zeroEc) := hid (laid1_0 wd zeroEc)
    have HLB3 : Hid (W0.heap.size ≤ wd.heap.size) := hid HS0.out.size
    refine hK.out _ _ HS3.out ?_
    clear hK K
    refine wpAnyH_ready (rs := [7]) (by kernel_rfl) (by simp) ?_
    refine rh_cons (i := 7) (o := ?o16) (listed' := ?l16) ?hi16 ?hl16 ?hg16 ?hh16 ?hs16
    case hi16 => (simp only [List.getElem?_toArray, List.getElem?_cons_succ, List.getElem?_cons_zero]; try rfl)
    case hl16 => (simp only [List.setIfInBounds_toArray, List.set_cons_succ, List.set_cons_zero]; try rfl)
    case hg16 => rfl
    case hs16 => exact AllReadyH.nil
    intro K hK
    go_simp
    refine (cGetV (HV.out.on (HB.out.trans (HS3.out.mono HB.out.size))) HWF.out).mono ?_
    rintro z wa4 ⟨hz, hB⟩
    rw [HLK.out, ← HHS.out] at hz
    subst hz
    have HS4 := hid (HS3.out.trans (hB.mono HS3.out.size))
    have HZ4 := hid (heapB HZ3.out hB (by simp))
    refine hK.out _ _ HS4.out ?_
    clear hK K
    refine rh_takeS (i := 8) (o := ?o17) (v := ?v17) (listed' := ?l17) (a' := ?a17) ?hi17 (by kernel_rfl) (by kernel_rfl) (by kernel_rfl) ?hq17 ?hl17 ?hw17 ?hv17 ?ha17 HS4.out ?hh17
    case hi17 => (simp only [List.getElem?_toArray, List.getElem?_cons_succ, List.getElem?_cons_zero]; try rfl)
    case hq17 => exact fun _ _ _ h => h
    case hl17 => (simp only [List.setIfInBounds_toArray, List.set_cons_succ, List.set_cons_zero]; try rfl)
    case hw17 => rfl
    case hv17 =>
      intro W hW
      skip
      go_simp
      try with_reducible rfl
    case ha17 => (simp only [Act.put, List.setIfInBounds_toArray, List.set_cons_succ, List.set_cons_zero]; try rfl)
    refine rh_takeS (i := 9) (o := ?o18) (v := ?v18) (listed' := ?l18) (a' := ?a18) ?hi18 (by kernel_rfl) (by kernel_rfl) (by kernel_rfl) ?hq18 ?hl18 ?hw18 ?hv18 ?ha18 HS4.out ?hh18
    case hi18 => (simp only [List.getElem?_toArray, List.getElem?_cons_succ, List.getElem?_cons_zero]; try rfl)
    case hq18 => exact fun _ _ _ h => h
    case hl18 => (simp only [List.setIfInBounds_toArray, List.set_cons_succ, List.set_cons_zero]; try rfl)
    case hw18 => rfl
    case hv18 =>
      intro W hW
      skip
      go_simp
      try with_reducible rfl
    case ha18 => (simp only [Act.put, List.setIfInBounds_toArray, List.set_cons_succ, List.set_cons_zero]; try rfl)
    refine rh_takeS (i := 10) (o := ?o19) (v := ?v19) (listed' := ?l19) (a' := ?a19) ?hi19 (by kernel_rfl) (by kernel_rfl) (by kernel_rfl) ?hq19 ?hl19 ?hw19 ?hv19 ?ha19 HS4.out ?hh19
    case hi19 => (simp only [List.getElem?_toArray, List.getElem?_cons_succ, List.getElem?_cons_zero]; try rfl)
    case hq19 => exact fun _ _ _ h => h
    case hl19 => (simp only [List.setIfInBounds_toArray, List.set_cons_succ, List.set_cons_zero]; try rfl)
    case hw19 => rfl
    case hv19 =>
      intro W hW
      skip
      go_simp
      try with_reducible rfl
    case ha19 => (simp only [Act.put, List.setIfInBounds_toArray, List.set_cons_succ, List.set_cons_zero]; try rfl)
    refine wpAnyH_ready (rs := [12]) (by kernel_rfl) (by simp) ?_
    refine rh_storeN (i := 12) (o := ?o20) (listed' := ?l20) (x := ?x20) (y := ?y20) (b := wd.heap.size) (T := 67) y.e.arr (infoEc' y.e) (Ev.one y.e) ?hi20 ?hl20 ?hg20 ?ho20 ?hx20 ?hy20 ?hd20 HZ4.out (by rw [Ev.size]; rfl) ?hh20 ?hs20
    case hi20 => (simp only [List.getElem?_toArray, List.getElem?_cons_succ, List.getElem?_cons_zero]; try rfl)
    case hl20 => (simp only [List.setIfInBounds_toArray, List.set_cons_succ, List.set_cons_zero]; try rfl)
    case hg20 => rfl
    case ho20 => rfl
    case hx20 => rfl
    case hy20 => rfl
    case hd20 => rfl
    case hs20 => exact AllReadyH.nil
    intro wq hO hU
    have HSq := hid (HS4.out.trans (hU.below _ HLB3.out))
    refine ⟨HSq.out, ?_⟩
    refine rh_takeS (i := 13) (o := ?o21) (v := ?v21) (listed' := ?l21) (a' := ?a21) ?hi21 (by kernel_rfl) (by kernel_rfl) (by kernel_rfl) ?hq21 ?hl21 ?hw21 ?hv21 ?ha21 HSq.out ?hh21
    case hi21 => (simp only [List.getElem?_toArray, List.getElem?_cons_succ, List.getElem?_cons_zero]; try rfl)
    case hq21 => exact fun _ _ _ h => h
    case hl21 => (simp only [List.setIfInBounds_toArray, List.set_cons_succ, List.set_cons_zero]; try rfl)
    case hw21 => rfl
    case hv21 =>
      intro W hW
      skip
      go_simp
      try with_reducible rfl
    case ha21 => (simp only [Act.put, List.setIfInBounds_toArray, List.set_cons_succ, List.set_cons_zero]; try rfl)
    refine wpAnyH_done (by kernel_rfl) ?_ _
    go_wp2_with fail
    go_meet
    exact ⟨_, rfl, rfl, hid ⟨HB.out.trans (HSq.out.mono HB.out.size), heapB HM.out HSq.out (Array.getElem?_eq_some_iff.1 HM.out).1, hO⟩⟩
  case rest =>
    obtain ⟨p, rfl, rfl, HH⟩ := hcut
    have HB1 := hid HH.out.1
    have HM1 := hid HH.out.2.1
    have HE1 := hid HH.out.2.2
    have HV1 := hid (HV.out.on HB1.out)
    have HT1 : Hid (Tch (TV q x b b2) w wc) := hid (Tch.ofBelow HB1.out)
    clear HH
    obtain ⟨so, hso⟩ : ∃ z, z = m.m.so := ⟨_, rfl⟩
    obtain ⟨dn, hdn⟩ : ∃ z, z = y.e.dn := ⟨_, rfl⟩
    obtain ⟨bal, hbal⟩ : ∃ z, z = m.m.bal := ⟨_, rfl⟩
    obtain ⟨pr, hpr⟩ : ∃ z, z = y.e.pr := ⟨_, rfl⟩
    have HSO := hid hso
    have HDN := hid hdn
    have HBAL := hid hbal
    have HPR := hid hpr
    have ks : wc.cell? ⟨w.heap.size, 0, none⟩ = some (.int .i64 so) := by rw [hso]; exact HM1.out.cell rfl
    have kd : wc.cell? ⟨p, 16, none⟩ = some (.bool dn) := by rw [hdn]; exact HE1.out.cell (j := 16) rfl
    have kb : wc.cell? ⟨w.heap.size, 3, none⟩ = some (.int .i64 bal) := by rw [hbal]; exact HM1.out.cell rfl
    have kp : wc.cell? ⟨p, 7, none⟩ = some (.int .i64 pr) := by rw [hpr]; exact HE1.out.cell (j := 7) rfl
    have kv : wc.cell? ⟨p, 17, none⟩ = some (.int .i64 y.e.vt) := HE1.out.cell (j := 17) rfl
    have kw : wc.cell? ⟨p, 18, none⟩ = some (.slice y.e.vp.a y.e.vp.n y.e.vp.c) := HE1.out.cell (j := 18) rfl
    clear hso hdn hbal hpr
    by_cases h7 : so = 7
    · have h7b : (so == 7) = true := by rw [h7]; rfl
      have HH7 := hid h7
      subst h7
      go_wp2_with (first
        | ((with_reducible refine loadM (x := ?lx34) (b := w.heap.size) m.m ?lg34 ?lo34 ?lxx34 ?lc34 ?lh34); (case lg34 => rfl); (case lo34 => rfl); (case lxx34 => rfl); (case lc34 => exact HM1.out))
        | ((with_reducible refine loadC (x := ?lx35) (b := p) (T := 67) y.e ?lg35 ?lo35 ?lxx35 ?lc35 ?lh35); (case lg35 => rfl); (case lo35 => rfl); (case lxx35 => rfl); (case lc35 => exact HE1.out))
        | fail)
      go_at_fn g
      refine (HTK.out (fun e => absurd HSO.out.symm e) wc HB1.out).mono ?_
      intro z wz hp
      have HP : Hid (AnsPost w B q x b b2 N nd s wv ws m y Post z wz) := hid (by unfold AnsPost; rw [if_neg (fun e => e.1 HSO.out.symm), if_neg (fun e => e.1 HSO.out.symm)]; exact hp)
      obtain ⟨vz, rfl⟩ := HRT.out z wz hp
      clear hp
      go_wp2_with fail
      go_ret
      exact HP.out
    · have HH7 := hid h7
      have h7b : (so == 7) = false := by simpa using h7
      rcases dn with _ | _
      · by_cases hlt : bal < pr
        · have HLT := hid hlt
          go_wp2_with (first
            | ((with_reducible refine loadM (x := ?lx33) (b := w.heap.size) m.m ?lg33 ?lo33 ?lxx33 ?lc33 ?lh33); (case lg33 => rfl); (case lo33 => rfl); (case lxx33 => rfl); (case lc33 => exact HM1.out))
            | ((with_reducible refine wpList_buildRe (x := ?bx23) pr ?bg23 ?bo23 ?be23 ?bh23); (case bg23 => rfl); (case bo23 => rfl); (case be23 => rfl))
            | (go_at_call 73; refine (cBackV HV1.out m.m { zM with so := 8, ab := pr }).mono ?_; intro z wz hp; have HO := hid (OutD.back (m := m) [] [] [] hp HV1.out HT1.out (nilF _ _) (nilF _ _) (nilF _ _)); obtain ⟨vz, hvz⟩ : ∃ v, z = .returned v := (by obtain ⟨v, e, _⟩ := hp; exact ⟨v, e⟩); subst hvz; clear hp)
            | fail)
          go_ret
          unfold AnsPost
          rw [if_neg (fun e => by rw [← HDN.out] at e; exact absurd e.2 (by decide)), if_pos ⟨by rw [← HSO.out]; exact HH7.out, by rw [← HBAL.out, ← HPR.out]; exact HLT.out⟩, ← HPR.out]
          exact HO.out
        · have HLT := hid hlt
          go_wp2_with (first
            | ((with_reducible refine loadM (x := ?lx36) (b := w.heap.size) m.m ?lg36 ?lo36 ?lxx36 ?lc36 ?lh36); (case lg36 => rfl); (case lo36 => rfl); (case lxx36 => rfl); (case lc36 => exact HM1.out))
            | ((with_reducible refine loadC (x := ?lx37) (b := p) (T := 67) y.e ?lg37 ?lo37 ?lxx37 ?lc37 ?lh37); (case lg37 => rfl); (case lo37 => rfl); (case lxx37 => rfl); (case lc37 => exact HE1.out))
            | fail)
          go_at_fn g
          refine (HTK.out (fun _ => by rw [← HBAL.out, ← HPR.out]; exact HLT.out) wc HB1.out).mono ?_
          intro z wz hp
          have HP : Hid (AnsPost w B q x b b2 N nd s wv ws m y Post z wz) := hid (by unfold AnsPost; rw [if_neg (fun e => by rw [← HDN.out] at e; exact absurd e.2 (by decide)), if_neg (fun e => by rw [← HBAL.out, ← HPR.out] at e; have h1 := e.2; have h2 := HLT.out; omega)]; exact hp)
          obtain ⟨vz, rfl⟩ := HRT.out z wz hp
          clear hp
          go_wp2_with fail
          go_ret
          exact HP.out
      · go_wp2_with (first
          | ((with_reducible refine loadM (x := ?lx32) (b := w.heap.size) m.m ?lg32 ?lo32 ?lxx32 ?lc32 ?lh32); (case lg32 => rfl); (case lo32 => rfl); (case lxx32 => rfl); (case lc32 => exact HM1.out))
          | ((with_reducible refine wpList_buildSt (x := ?bx22) y.e.vt y.e.vp ?bg22 ?bo22 ?be22 ?bh22); (case bg22 => rfl); (case bo22 => rfl); (case be22 => rfl))
          | (go_at_call 73; refine (cBackV HV1.out m.m { zM with so := 7, vt := y.e.vt, vp := y.e.vp }).mono ?_; intro z wz hp; have HO := hid (OutD.back (m := m) y.v [] [] hp HV1.out HT1.out (SetF.ofLow (HV1.out.all y HYM.out).2.2 (HV1.out.lo y HYM.out).2.2) (nilF _ _) (nilF _ _)); obtain ⟨vz, hvz⟩ : ∃ v, z = .returned v := (by obtain ⟨v, e, _⟩ := hp; exact ⟨v, e⟩); subst hvz; clear hp)
          | fail)
        go_ret
        unfold AnsPost
        rw [if_pos ⟨by rw [← HSO.out]; exact HH7.out, HDN.out.symm⟩]
        exact HO.out
end Go.Proofs.YtlehcaacfgocaaaGreat
