import Derived.Test.YtplodoindppleaaGreatLSeenZm
import Derived.Test.YtplodoindppleaaGreatLOpsZm
namespace Go.Proofs.YtplodoindppleaaGreat
set_option linter.unusedVariables false
open Go.RowKit
open Go.Lib (hid)
def sameVB (x y : Ms) : Bool := decide (x.m.vt = y.m.vt) && sameB x.v y.v
def isAsk (so bal : Int) (c : C7) (z : Ms) (m : Ms) : Bool := decide (m.m.so = so) && (decide (m.m.bal = bal) && (m.m.c.same c && sameVB m z))
def askB (ls : List Ms) (so bal : Int) (c : C7) (z : Ms) : Bool := ls.any (isAsk so bal c z)
theorem ask_no {ls : List Ms} {so bal : Int} {c : C7} {z : Ms} (h : ∀ x ∈ ls, isAsk so bal c z x = false) : askB ls so bal c z = false := by
  unfold askB
  rw [List.any_eq_false]
  exact fun x hx => by rw [h x hx]; decide
theorem ask_yes {ls : List Ms} {so bal : Int} {c : C7} {z m : Ms} (hm : m ∈ ls) (h : isAsk so bal c z m = true) : askB ls so bal c z = true := by
  unfold askB
  rw [List.any_eq_true]
  exact ⟨m, hm, h⟩
def likeK (m o : Ms) : Ms := if m.m.so = 1 then ⟨{ zM with so := 1, c := m.m.c, vt := o.m.vt, fl := true }, [], [], []⟩ else ⟨{ zM with so := 6, c := m.m.c, bal := m.m.bal }, [], [], []⟩
def enoughB (N : Int) (sent got : List Ms) (m o : Ms) : Bool :=
  if m.m.so = 7 then sameVB m o
  else if m.m.so = 1 then askB sent 0 0 m.m.c o && (decide (m.m.bal = 0) && decide (faI N ≤ ((seenF (likeK m o) got).length : Int)))
  else if m.m.so = 6 then askB sent 5 m.m.bal m.m.c o && decide (clI N ≤ ((seenF (likeK m o) got).length : Int))
  else false
set_option maxRecDepth 100000 in
theorem run_bldL1 (c : C7) (t : Int) (w : World) : (Instr.build 48 #[(0, .int .i64 1), (4, .agg #[.int .i64 c.i, .int .i64 c.k, .int .i64 c.s, .int .i64 c.t, .int .i64 c.d, .int .i64 c.p, .int .i64 c.q]), (5, .agg (varr t zS)), (6, .bool true)]).run Tryz.prog w = .ok (.agg ({ zM with so := 1, c := c, vt := t, fl := true } : Mg).arr) w := by kernel_rfl
set_option maxRecDepth 100000 in
theorem run_bldL6 (c : C7) (b : Int) (w : World) : (Instr.build 48 #[(0, .int .i64 6), (4, .agg #[.int .i64 c.i, .int .i64 c.k, .int .i64 c.s, .int .i64 c.t, .int .i64 c.d, .int .i64 c.p, .int .i64 c.q]), (3, .int .i64 b)]).run Tryz.prog w = .ok (.agg ({ zM with so := 6, c := c, bal := b } : Mg).arr) w := by kernel_rfl
set_option maxRecDepth 100000 in
theorem run_bldV (t : Int) (w : World) : (Instr.build 34 #[(0, .int .i64 t)]).run Tryz.prog w = .ok (.agg (varr t zS)) w := by kernel_rfl
theorem wpList_bldV {ops : Array Oper} {rest : List Oper} {op : Oper} {a : Act} {w : World} {Q : Exit → Act → World → Prop} {x : Operand} (t : Int) (hgd : Region.wanted op (yielded ops a.tmps) = true) (ho : op.op = .build 34 #[(0, x)])
    (h1 : a.eval x = .int .i64 t) (h : wpList Tryz.prog ops Q rest (a.put op.dst (.agg (varr t zS))) w) : wpList Tryz.prog ops Q (op :: rest) a w := by
  refine BigFrame.wpList_want hgd fun _ hK' => ?_
  unfold Oper.wp execOp
  have hb := run_bldV t w
  simp only [ho, List.map_toArray, List.map_cons, List.map_nil, h1, Sem.run_bind]
  rw [hb]
  simp only [Result.andThen_ok]
  exact hK' _ _ h
theorem wpList_bldL1 {ops : Array Oper} {rest : List Oper} {op : Oper} {a : Act} {w : World} {Q : Exit → Act → World → Prop} {x y : Operand} (c : C7) (t : Int) (hgd : Region.wanted op (yielded ops a.tmps) = true) (ho : op.op = .build 48 #[(0, .const (.int .i64 1)), (4, x), (5, y), (6, .const (.bool true))])
    (h1 : a.eval x = .agg #[.int .i64 c.i, .int .i64 c.k, .int .i64 c.s, .int .i64 c.t, .int .i64 c.d, .int .i64 c.p, .int .i64 c.q]) (h2 : a.eval y = .agg (varr t zS)) (h : wpList Tryz.prog ops Q rest (a.put op.dst (.agg ({ zM with so := 1, c := c, vt := t, fl := true } : Mg).arr)) w) : wpList Tryz.prog ops Q (op :: rest) a w := by
  refine BigFrame.wpList_want hgd fun _ hK' => ?_
  unfold Oper.wp execOp
  have hb := run_bldL1 c t w
  have hc : a.eval (.const (.int .i64 1)) = .int .i64 1 := rfl
  have hc2 : a.eval (.const (.bool true)) = .bool true := rfl
  simp only [ho, List.map_toArray, List.map_cons, List.map_nil, h1, h2, hc, hc2, Sem.run_bind]
  rw [hb]
  simp only [Result.andThen_ok]
  exact hK' _ _ h
theorem wpList_bldL6 {ops : Array Oper} {rest : List Oper} {op : Oper} {a : Act} {w : World} {Q : Exit → Act → World → Prop} {x y : Operand} (c : C7) (b : Int) (hgd : Region.wanted op (yielded ops a.tmps) = true) (ho : op.op = .build 48 #[(0, .const (.int .i64 6)), (4, x), (3, y)])
    (h1 : a.eval x = .agg #[.int .i64 c.i, .int .i64 c.k, .int .i64 c.s, .int .i64 c.t, .int .i64 c.d, .int .i64 c.p, .int .i64 c.q]) (h2 : a.eval y = .int .i64 b) (h : wpList Tryz.prog ops Q rest (a.put op.dst (.agg ({ zM with so := 6, c := c, bal := b } : Mg).arr)) w) : wpList Tryz.prog ops Q (op :: rest) a w := by
  refine BigFrame.wpList_want hgd fun _ hK' => ?_
  unfold Oper.wp execOp
  have hb := run_bldL6 c b w
  have hc : a.eval (.const (.int .i64 6)) = .int .i64 6 := rfl
  simp only [ho, List.map_toArray, List.map_cons, List.map_nil, h1, h2, hc, Sem.run_bind]
  rw [hb]
  simp only [Result.andThen_ok]
  exact hK' _ _ h
set_option maxHeartbeats 16000000 in
set_option maxRecDepth 100000 in
theorem cAsk {v : Value} {ls : List Ms} {w : World} {z : Ms} (so bal : Int) (c : C7) (h : SlM w v (mgs ls)) (hA : ∀ m ∈ ls, m.at w) (hS : ∀ m ∈ ls, m.short 1024) (hl : ls.length ≤ 1000) (hz : Sl w z.m.vp.v z.v) (hzl : z.v.length ≤ 1024) : Calls Tryz.prog 50 #[v, .int .i64 so, .int .i64 bal, (.agg #[.int .i64 c.i, .int .i64 c.k, .int .i64 c.s, .int .i64 c.t, .int .i64 c.d, .int .i64 c.p, .int .i64 c.q]), .agg (varr z.m.vt z.m.vp)] w fun e w' => e = .returned (.bool (askB ls so bal c z)) ∧ Below w.heap.size w w' := by
  have HSH := hid hS
  clear hS
  have HLL := hid hl
  obtain ⟨b, o, cap, a, rfl, ha, hc, hb⟩ := h
  have hlm : (mgs ls).length = ls.length := by unfold mgs; rw [List.length_map]
  rw [hlm] at ha hb ⊢
  have HA := hid hA
  have HCC := hid hc
  obtain ⟨m, hm⟩ : ∃ m, m = ls.length := ⟨_, rfl⟩
  rw [← hm] at ha hb hl ⊢
  have HN := hid hm
  clear hm hA hc hlm
  have HB0 : Hid (Below w.heap.size w ((w.alloc (.cells #[.int .i64 c.i, .int .i64 c.k, .int .i64 c.s, .int .i64 c.t, .int .i64 c.d, .int .i64 c.p, .int .i64 c.q] 42)).alloc (.cells (varr z.m.vt z.m.vp) 34))) := hid (laid2_b w _ _)
  have HC0 : Hid (OCm ((w.alloc (.cells #[.int .i64 c.i, .int .i64 c.k, .int .i64 c.s, .int .i64 c.t, .int .i64 c.d, .int .i64 c.p, .int .i64 c.q] 42)).alloc (.cells (varr z.m.vt z.m.vp) 34)) w.heap.size c) := hid (laid2_0 w _ _)
  have HV0 : Hid (OV ((w.alloc (.cells #[.int .i64 c.i, .int .i64 c.k, .int .i64 c.s, .int .i64 c.t, .int .i64 c.d, .int .i64 c.p, .int .i64 c.q] 42)).alloc (.cells (varr z.m.vt z.m.vp) 34)) (w.heap.size + 1) z.m.vt z.m.vp) := hid (laid2_1 w _ _)
  have HZ := hid hz
  have HZL := hid hzl
  clear hz hzl
  go_enter Tryz.func50, Tryz.ntmps50
  go_wp2_with fail
  obtain ⟨W0, hW0⟩ : ∃ W0, W0 = ((w.alloc (.cells #[.int .i64 c.i, .int .i64 c.k, .int .i64 c.s, .int .i64 c.t, .int .i64 c.d, .int .i64 c.p, .int .i64 c.q] 42)).alloc (.cells (varr z.m.vt z.m.vp) 34)) := ⟨_, rfl⟩
  rw [← hW0] at HB0 HC0 HV0 ⊢
  clear hW0
  go_loopw [11] (fun i wr => ∃ (k : Nat), k ≤ m ∧ i = .int .i64 k ∧ Hid (∀ x ∈ ls.take k, isAsk so bal c z x = false) ∧ Hid (Below W0.heap.size W0 wr)) (fun i _ => m - (RowKit.intOf i).toNat)
  case atStart => exact ⟨0, Nat.zero_le _, rfl, hid (by simp), hid (Below.refl _ _)⟩
  case round =>
    obtain ⟨k, hk, rfl, HNO, HBW⟩ := hrel
    have HB : Hid (Below w.heap.size w wr) := hid (HB0.out.trans (HBW.out.mono HB0.out.size))
    by_cases hlt : k < m
    · have hlti : ((k : Int) < m) := by omega
      obtain rfl := ha (by omega)
      obtain ⟨y, hy⟩ : ∃ y, ls[k]? = some y := ⟨ls[k]'(by rw [← HN.out]; exact hlt), List.getElem?_eq_getElem (by rw [← HN.out]; exact hlt)⟩
      have hbw := hb (by omega)
      have HC : Hid (wr.rangeAt b (o + k * 20) y.m.list) := hid ((HCC.out.on HB.out fun _ => hbw) k y.m (at_mgs hy))
      have HY := hid hy
      have HYA := hid ((HA.out y (List.mem_of_getElem? hy)).on HB.out)
      clear hy hbw
      have HYS := hid (HSH.out y (List.mem_of_getElem? HY.out))
      have HVV : Hid (wr.rangeAt b (o + k * 20 + 11) (vcs y.m.vt y.m.vp)) := hid (fun i u hu => by
    rcases i with _ | _ | i
    · obtain rfl := Option.some.inj hu; exact HC.out 11 _ rfl
    · obtain rfl := Option.some.inj hu; exact HC.out 12 _ rfl
    · simp [vcs] at hu)
      obtain ⟨sv, hsv⟩ : ∃ r, r = sameVB y z := ⟨_, rfl⟩
      have HSV := hid hsv
      clear hsv
      have HBL : Hid (b < wr.heap.size) := hid (by have := hb (by omega); exact Nat.lt_of_lt_of_le this HB.out.size)
      go_upto_region 4 with fail
      refine rh_start (S := fun W => Below wr.heap.size wr W) (n := 8) (listed := #[false, false, false, false, false, false, false, false]) (by kernel_rfl) rfl rfl ?_
      have HS0 : Hid (Below wr.heap.size wr wr.drew) := hid (belowDrew (Below.refl _ wr))
      have HV1 := hid (HV0.out.on HBW.out)
      generalize wr.drew = wd at HS0 ⊢
      refine tkS 0 ?o1 ?v1 ?l1 ?a1 ?hi1 ?hq1 ?hl1 ?hw1 ?hv1 ?ha1 HS0.out ?hh1
      case hi1 => (simp only [List.getElem?_toArray, List.getElem?_cons_zero]; try rfl)
      case hq1 => exact fun _ _ _ h => h
      case hl1 => (simp only [List.setIfInBounds_toArray, List.set_cons_zero]; try rfl)
      case hw1 => rfl
      case hv1 =>
        intro W hW
        go_simp
        try with_reducible rfl
      case ha1 => (simp only [Act.put,gD,gE,gF]; try rfl)
      refine tkS 1 ?o2 ?v2 ?l2 ?a2 ?hi2 ?hq2 ?hl2 ?hw2 ?hv2 ?ha2 HS0.out ?hh2
      case hi2 => (simp only [gA,gB,gC]; try rfl)
      case hq2 => exact fun _ _ _ h => h
      case hl2 => (simp only [gD,gE,gF]; try rfl)
      case hw2 => rfl
      case hv2 =>
        intro W hW
        go_simp
        try with_reducible rfl
      case ha2 => (simp only [Act.put,gD,gE,gF]; try rfl)
      refine tkS 2 ?o3 ?v3 ?l3 ?a3 ?hi3 ?hq3 ?hl3 ?hw3 ?hv3 ?ha3 HS0.out ?hh3
      case hi3 => (simp only [gA,gB,gC]; try rfl)
      case hq3 => exact fun _ _ _ h => h
      case hl3 => (simp only [gD,gE,gF]; try rfl)
      case hw3 => rfl
      case hv3 =>
        intro W hW
        go_simp
        try with_reducible rfl
      case ha3 => (simp only [Act.put,gD,gE,gF]; try rfl)
      refine tkS 3 ?o4 ?v4 ?l4 ?a4 ?hi4 ?hq4 ?hl4 ?hw4 ?hv4 ?ha4 HS0.out ?hh4
      case hi4 => (simp only [gA,gB,gC]; try rfl)
      case hq4 => exact fun _ _ _ h => h
      case hl4 => (simp only [gD,gE,gF]; try rfl)
      case hw4 => rfl
      case hv4 =>
        intro W hW
        go_simp
        try with_reducible rfl
      case ha4 => (simp only [Act.put,gD,gE,gF]; try rfl)
      refine rh_load (i := 4) (o := ?o6) (cs := vcs y.m.vt y.m.vp) (T := 34) (x := ?x6) (b := ?b6) (q := ?q6) (listed' := ?l6) (a' := ?a6) ?hi6 (by kernel_rfl) (by kernel_rfl) (by kernel_rfl) ?hq6 ?hl6 ?hg6 ?ho6 ?hx6 ?hc6 Tryz.underlying34 rfl (infoVl y.m.vt y.m.vp) ?ha6 HS0.out ?hh6
      case hi6 => (simp only [gA,gB,gC]; try rfl)
      case hq6 => exact fun _ _ _ h => h
      case hl6 => (simp only [gD,gE,gF]; try rfl)
      case hg6 => rfl
      case ho6 => rfl
      case hx6 => rfl
      case hc6 => exact fun W hW i u hu => (hW.cell (p := ⟨b, o + k * 20 + 11 + i, none⟩) HBL.out).trans (HVV.out i u hu)
      case ha6 => (show Act.put _ _ (Value.agg (varr y.m.vt y.m.vp)) = _); (simp only [Act.put,gD,gE,gF]; try rfl)
      refine rh_load (i := 5) (o := ?o7) (cs := vcs z.m.vt z.m.vp) (T := 34) (x := ?x7) (b := ?b7) (q := ?q7) (listed' := ?l7) (a' := ?a7) ?hi7 (by kernel_rfl) (by kernel_rfl) (by kernel_rfl) ?hq7 ?hl7 ?hg7 ?ho7 ?hx7 ?hc7 Tryz.underlying34 rfl (infoVl z.m.vt z.m.vp) ?ha7 HS0.out ?hh7
      case hi7 => (simp only [gA,gB,gC]; try rfl)
      case hq7 => exact fun _ _ _ h => h
      case hl7 => (simp only [gD,gE,gF]; try rfl)
      case hg7 => rfl
      case ho7 => rfl
      case hx7 => rfl
      case hc7 => exact fun W hW => (HV1.out.on hW).range
      case ha7 => (show Act.put _ _ (Value.agg (varr z.m.vt z.m.vp)) = _); (simp only [Act.put,gD,gE,gF]; try rfl)
      refine wpAnyH_ready (rs := [6]) (by kernel_rfl) (by simp) ?_
      refine rh_cons (i := 6) (o := ?o8) (listed' := ?l8) ?hi8 ?hl8 ?hg8 ?hh8 ?hs8
      case hi8 => (simp only [gA,gB,gC]; try rfl)
      case hl8 => (simp only [gD,gE,gF]; try rfl)
      case hg8 => rfl
      case hs8 => exact AllReadyH.nil
      intro K hK
      go_simp
      refine (rSameVG y.m.vt z.m.vt (HYA.out.1.on HS0.out) (HZ.out.on (HB.out.trans (HS0.out.mono HB.out.size))) (Nat.le_trans HYS.out.1 (by decide)) (Nat.le_trans HZL.out (by decide))).mono ?_
      rintro zz w1 ⟨rfl, hb1⟩
      rw [show (decide (y.m.vt = z.m.vt) && sameB y.v z.v) = sv from HSV.out.symm]
      have HS1 := hid (HS0.out.trans (hb1.mono HS0.out.size))
      clear hb1
      refine hK.out _ _ HS1.out ?_
      clear hK K
      refine tkS 7 ?o9 ?v9 ?l9 ?a9 ?hi9 ?hq9 ?hl9 ?hw9 ?hv9 ?ha9 HS1.out ?hh9
      case hi9 => (simp only [gA,gB,gC]; try rfl)
      case hq9 => exact fun _ _ _ h => h
      case hl9 => (simp only [gD,gE,gF]; try rfl)
      case hw9 => rfl
      case hv9 =>
        intro W hW
        go_simp
        try with_reducible rfl
      case ha9 => (simp only [Act.put,gD,gE,gF]; try rfl)
      refine wpAnyH_done (by kernel_rfl) ?_ _
      have HB1 : Hid (Below w.heap.size w w1) := hid (HB.out.trans (HS1.out.mono HB.out.size))
      have HBW1 : Hid (Below W0.heap.size W0 w1) := hid (HBW.out.trans (HS1.out.mono HBW.out.size))
      have HC1 : Hid (w1.rangeAt b (o + k * 20) y.m.list) := hid (fun i u hu => (HS1.out.cell (p := ⟨b, o + k * 20 + i, none⟩) HBL.out).trans (HC.out i u hu))
      have HCC1 := hid (HC0.out.on HBW1.out)
      obtain ⟨yso, hyso⟩ : ∃ z, z = y.m.so := ⟨_, rfl⟩
      obtain ⟨ybal, hybal⟩ : ∃ z, z = y.m.bal := ⟨_, rfl⟩
      have J1 := hid hyso
      have J2 := hid hybal
      clear hyso hybal
      obtain ⟨sc, hsc⟩ : ∃ r, r = y.m.c.same c := ⟨_, rfl⟩
      have q1 := fun W => eqlC hsc.symm W
      have q2 := fun W => guardC .eql (.tmp 47) (.tmp 48) y.m.c c W
      have HSC := hid hsc
      clear hsc
      have HIA : Hid (isAsk so bal c z y = (decide (yso = so) && (decide (ybal = bal) && (sc && sv)))) := hid (by unfold isAsk; rw [← J1.out, ← J2.out, ← HSC.out, ← HSV.out])
      have d0 : w1.cell? ⟨b, o + k * 20, none⟩ = some (.int .i64 yso) := (by rw [J1.out]; exact HC1.out 0 _ rfl)
      have d3 : w1.cell? ⟨b, o + k * 20 + 3, none⟩ = some (.int .i64 ybal) := (by rw [J2.out]; exact HC1.out 3 _ rfl)
      have dc0 : w1.cell? ⟨b, o + k * 20 + 4, none⟩ = some (.int .i64 y.m.c.i) := HC1.out 4 _ rfl
      have ec0 : w1.cell? ⟨w.heap.size, 0, none⟩ = some (.int .i64 c.i) := (cellAt' HCC1.out 0).trans rfl
      have dc1 : w1.cell? ⟨b, o + k * 20 + 5, none⟩ = some (.int .i64 y.m.c.k) := HC1.out 5 _ rfl
      have ec1 : w1.cell? ⟨w.heap.size, 1, none⟩ = some (.int .i64 c.k) := (cellAt' HCC1.out 1).trans rfl
      have dc2 : w1.cell? ⟨b, o + k * 20 + 6, none⟩ = some (.int .i64 y.m.c.s) := HC1.out 6 _ rfl
      have ec2 : w1.cell? ⟨w.heap.size, 2, none⟩ = some (.int .i64 c.s) := (cellAt' HCC1.out 2).trans rfl
      have dc3 : w1.cell? ⟨b, o + k * 20 + 7, none⟩ = some (.int .i64 y.m.c.t) := HC1.out 7 _ rfl
      have ec3 : w1.cell? ⟨w.heap.size, 3, none⟩ = some (.int .i64 c.t) := (cellAt' HCC1.out 3).trans rfl
      have dc4 : w1.cell? ⟨b, o + k * 20 + 8, none⟩ = some (.int .i64 y.m.c.d) := HC1.out 8 _ rfl
      have ec4 : w1.cell? ⟨w.heap.size, 4, none⟩ = some (.int .i64 c.d) := (cellAt' HCC1.out 4).trans rfl
      have dc5 : w1.cell? ⟨b, o + k * 20 + 9, none⟩ = some (.int .i64 y.m.c.p) := HC1.out 9 _ rfl
      have ec5 : w1.cell? ⟨w.heap.size, 5, none⟩ = some (.int .i64 c.p) := (cellAt' HCC1.out 5).trans rfl
      have dc6 : w1.cell? ⟨b, o + k * 20 + 10, none⟩ = some (.int .i64 y.m.c.q) := HC1.out 10 _ rfl
      have ec6 : w1.cell? ⟨w.heap.size, 6, none⟩ = some (.int .i64 c.q) := (cellAt' HCC1.out 6).trans rfl
      go_upto_region 5 with fail
      by_cases h1 : yso = so
      · by_cases h2 : ybal = bal
        · rcases sc with _ | _
          · as_aux_lemma =>
              go_quiet (fail)
              rename_i nq
              have HBq : Hid (Below w1.heap.size w1 (w1.drewN nq)) := hid (Below.drewL (Below.refl _ w1) nq)
              generalize w1.drewN nq = w2 at HBq ⊢
              have HB2 : Hid (Below W0.heap.size W0 w2) := hid (HBW1.out.trans (HBq.out.mono HBW1.out.size))
              clear q1 q2 d0 d3 dc0 ec0 dc1 ec1 dc2 ec2 dc3 ec3 dc4 ec4 dc5 ec5 dc6 ec6
              go_wp2_with fail
              go_roundw
              case rel => exact ⟨k + 1, by omega, by go_num, hid (no_next HY.out HNO.out (by rw [HIA.out]; simp)), HB2⟩
              case measure => first | omega | (simp [RowKit.intOf]; omega)
          · rcases sv with _ | _
            · as_aux_lemma =>
                go_quiet (fail)
                rename_i nq
                have HBq : Hid (Below w1.heap.size w1 (w1.drewN nq)) := hid (Below.drewL (Below.refl _ w1) nq)
                generalize w1.drewN nq = w2 at HBq ⊢
                have HB2 : Hid (Below W0.heap.size W0 w2) := hid (HBW1.out.trans (HBq.out.mono HBW1.out.size))
                clear q1 q2 d0 d3 dc0 ec0 dc1 ec1 dc2 ec2 dc3 ec3 dc4 ec4 dc5 ec5 dc6 ec6
                go_wp2_with fail
                go_roundw
                case rel => exact ⟨k + 1, by omega, by go_num, hid (no_next HY.out HNO.out (by rw [HIA.out]; simp)), HB2⟩
                case measure => first | omega | (simp [RowKit.intOf]; omega)
            · as_aux_lemma =>
                go_quiet (fail)
                rename_i nq
                have HBq : Hid (Below w1.heap.size w1 (w1.drewN nq)) := hid (Below.drewL (Below.refl _ w1) nq)
                generalize w1.drewN nq = w2 at HBq ⊢
                have HB2 : Hid (Below W0.heap.size W0 w2) := hid (HBW1.out.trans (HBq.out.mono HBW1.out.size))
                clear q1 q2 d0 d3 dc0 ec0 dc1 ec1 dc2 ec2 dc3 ec3 dc4 ec4 dc5 ec5 dc6 ec6
                go_wp2_with fail
                go_ret
                exact ⟨by rw [ask_yes (List.mem_of_getElem? HY.out) (by rw [HIA.out]; simp [h1, h2])]; rfl, HB0.out.trans (HB2.out.mono HB0.out.size)⟩
        · as_aux_lemma =>
            have hb2 : (ybal == bal) = false := by simpa using h2
            go_quiet (fail)
            rename_i nq
            have HBq : Hid (Below w1.heap.size w1 (w1.drewN nq)) := hid (Below.drewL (Below.refl _ w1) nq)
            generalize w1.drewN nq = w2 at HBq ⊢
            have HB2 : Hid (Below W0.heap.size W0 w2) := hid (HBW1.out.trans (HBq.out.mono HBW1.out.size))
            clear q1 q2 d0 d3 dc0 ec0 dc1 ec1 dc2 ec2 dc3 ec3 dc4 ec4 dc5 ec5 dc6 ec6
            go_wp2_with fail
            go_roundw
            case rel => exact ⟨k + 1, by omega, by go_num, hid (no_next HY.out HNO.out (by rw [HIA.out]; simp [h2])), HB2⟩
            case measure => first | omega | (simp [RowKit.intOf]; omega)
      · as_aux_lemma =>
          have hb1 : (yso == so) = false := by simpa using h1
          go_quiet (fail)
          rename_i nq
          have HBq : Hid (Below w1.heap.size w1 (w1.drewN nq)) := hid (Below.drewL (Below.refl _ w1) nq)
          generalize w1.drewN nq = w2 at HBq ⊢
          have HB2 : Hid (Below W0.heap.size W0 w2) := hid (HBW1.out.trans (HBq.out.mono HBW1.out.size))
          clear q1 q2 d0 d3 dc0 ec0 dc1 ec1 dc2 ec2 dc3 ec3 dc4 ec4 dc5 ec5 dc6 ec6
          go_wp2_with fail
          go_roundw
          case rel => exact ⟨k + 1, by omega, by go_num, hid (no_next HY.out HNO.out (by rw [HIA.out]; simp [h1])), HB2⟩
          case measure => first | omega | (simp [RowKit.intOf]; omega)
    · have hlti : ¬ ((k : Int) < m) := by omega
      have hkm : k = m := by omega
      go_wp2_with fail
      go_ret
      exact ⟨by rw [ask_no (fun x hx => HNO.out x (by rw [hkm, HN.out, List.take_length]; exact hx))]; rfl, HB.out⟩
end Go.Proofs.YtplodoindppleaaGreat
