import Derived.Test.YtplodoindppleaaGreatLAllZm
import Derived.Test.YtplodoindppleaaGreatG18
import Derived.StillTailTactics
import Derived.Test.YtplodoindppleaaGreatG15
namespace Go.Proofs.YtplodoindppleaaGreat
set_option linter.unusedVariables false
open Go.RowKit
open Go.Lib (hid)
theorem run_lookL {w : World} {b n : Nat} {f : Int → Option Nat} (h : Mq w b n f) {i : Int} (hw : (Lit.int .i64 i).wf = true) :
 Sem.run Tryz.prog (Instr.lookup 66 (.map (some b)) (.int .i64 i) false) w = .ok (ptrO (f i)) w := by
 obtain ⟨D, hD, hS⟩ := h
 have hz : (zeroValue 69).run Tryz.prog w = .ok (ptrO none) w := Tryz.zeroValue69 w
 obtain ⟨v, ps, hrun, hv⟩ := hD.lookup (Maps.int_keyed Tryz.underlying3) Tryz.underlying66 hz (RP_mk none) (key := .int .i64 i) (kl := key i) (Maps.keyOf_int_mk Tryz.underlying3 hw)
 rw [hrun]
 rcases hl : f i with _ | p
 · rw [Maps.atKey_of_not_has ((hS i).2 hl)] at hv
   obtain ⟨o, rfl, he⟩ := RP_inv hv
   rw [← DataW.held.inj (Prod.mk.inj he).1]
 · rw [((hS i).1 p hl).2] at hv
   obtain ⟨o, rfl, he⟩ := RP_inv hv
   rw [← DataW.held.inj (Prod.mk.inj he).1]; rfl
set_option maxRecDepth 100000 in
theorem run_bldA (so vt : Int) (vp : Sv) (w : World) : (Instr.build 48 #[(0, .int .i64 so), (5, .agg #[.int .i64 vt, .slice vp.a vp.n vp.c])]).run Tryz.prog w = .ok (.agg (askM so vt vp false).arr) w := by kernel_rfl
theorem wpList_bldA {ops : Array Oper} {rest : List Oper} {op : Oper} {a : Act} {w : World} {Q : Exit → Act → World → Prop} {x : Operand} (so vt : Int) (vp : Sv) (hgd : op.guard = none) (ho : op.op = .build 48 #[(0, .const (.int .i64 so)), (5, x)])
 (h1 : a.eval x = .agg (varr vt vp)) (h : wpList Tryz.prog ops Q rest (a.put op.dst (.agg (askM so vt vp false).arr)) w) : wpList Tryz.prog ops Q (op :: rest) a w := by
 refine wpList_plain hgd fun _ hK' => ?_
 unfold Oper.wp execOp
 have hb := run_bldA so vt vp w
 have hc : a.eval (.const (.int .i64 so)) = .int .i64 so := rfl
 simp only [ho, List.map_toArray, List.map_cons, List.map_nil, h1, hc, Sem.run_bind]
 rw [show varr vt vp = #[.int .i64 vt, .slice vp.a vp.n vp.c] from rfl, hb]
 simp only [Result.andThen_ok]
 exact hK' _ _ h
set_option maxRecDepth 100000 in
theorem run_bldF (so vt : Int) (vp : Sv) (fl : Bool) (w : World) : (Instr.build 48 #[(0, .int .i64 so), (5, .agg #[.int .i64 vt, .slice vp.a vp.n vp.c]), (6, .bool fl)]).run Tryz.prog w = .ok (.agg (askM so vt vp fl).arr) w := by kernel_rfl
theorem wpList_bldF {ops : Array Oper} {rest : List Oper} {op : Oper} {a : Act} {w : World} {Q : Exit → Act → World → Prop} {x y : Operand} (so vt : Int) (vp : Sv) (fl : Bool) (hgd : op.guard = none) (ho : op.op = .build 48 #[(0, .const (.int .i64 so)), (5, x), (6, y)])
 (h1 : a.eval x = .agg (varr vt vp)) (h2 : a.eval y = .bool fl) (h : wpList Tryz.prog ops Q rest (a.put op.dst (.agg (askM so vt vp fl).arr)) w) : wpList Tryz.prog ops Q (op :: rest) a w := by
 refine wpList_plain hgd fun _ hK' => ?_
 unfold Oper.wp execOp
 have hb := run_bldF so vt vp fl w
 have hc : a.eval (.const (.int .i64 so)) = .int .i64 so := rfl
 simp only [ho, List.map_toArray, List.map_cons, List.map_nil, h1, h2, hc, Sem.run_bind]
 rw [show varr vt vp = #[.int .i64 vt, .slice vp.a vp.n vp.c] from rfl, hb]
 simp only [Result.andThen_ok]
 exact hK' _ _ h
set_option maxHeartbeats 4000000 in
set_option maxRecDepth 100000 in
theorem cLeave {w : World} {B q b n p : Nat} {nd N : Int} {f : Int → Option Nat} {x : Ax} (hL : Lq w B q b n nd N f) (hA : Ap w B p x) (hw : (Lit.int .i64 x.c.i).wf = true) : Calls Tryz.prog 34 #[ptr q, ptr p] w fun e w' => e = .returned (.slice none 0 0) ∧ Lq w' B q b n nd N (putP f x.c.i none) ∧ Ap w' B p x ∧ Tch (fun k => k = b) w w' := by
 have HL := hid hL
 have HA := hid hA
 clear hL hA
 go_enter Tryz.func34, Tryz.ntmps34
 go_wp2_with fail
 refine wp_region_still_tail 9 (by kernel_rfl) (by kernel_rfl) ?_
 obtain ⟨W1, hW1⟩ : ∃ W1 : World, W1 = { w with drawn := w.drawn + 1 } := ⟨_, rfl⟩
 rw [← hW1]
 have HB1 : Hid (Below w.heap.size w W1) := hid (by rw [hW1]; exact belowDrew (Below.refl _ w))
 clear hW1
 replace HL := hid (HL.out.on HB1.out)
 replace HA := hid (HA.out.on HB1.out)
 obtain ⟨k0, k1, k2⟩ := HL.out.cells
 have k4 := HA.out.cells.2.2.2.2.2.2
 simp only [List.take_succ_cons, List.take_zero, List.drop_succ_cons, List.drop_zero]
 still_step
 still_step
 still_step
 still_step
 still_step
 still_step
 still_step
 still_step
 still_step
 refine wpStill_nil ?_
 obtain ⟨D, hD, hS⟩ := HL.out.mp
 refine wpList_delete_own _ rfl _ _ 66 3 rfl 69 (Maps.int_keyed Tryz.underlying3) Tryz.underlying66 RP b n D rfl hD _ (key x.c.i) rfl (Maps.keyOf_int_mk Tryz.underlying3 hw) ?_
 intro W2 hD2 ht
 have hT : Tch (fun k => k = b) W1 W2 := Tch.ofGrown ht.grown fun k e => (Option.some.inj e).symm
 have hqb : q ≠ b := fun e => by obtain ⟨es, k, hb⟩ := HL.out.mp.map; have := HL.out.ob; rw [e, hb] at this; cases this
 have HL2 : Hid (Lq W2 B q b n nd N (putP f x.c.i none)) := hid ⟨hT.ob HL.out.ob hqb, ⟨_, hD2, hS.del x.c.i⟩, HL.out.lb⟩
 have HA2 : Hid (Ap W2 B p x) := hid (HA.out.tch hT (fun k e => by subst e; exact ⟨HL.out.lb, HL.out.nob⟩) (fun k hk e => by subst e; exact (HL.out.qa HA.out).2 hk))
 have HT2 : Hid (Tch (fun k => k = b) w W2) := hid ((Tch.ofBelow HB1.out).trans hT)
 clear hD hS hD2 ht hT k0 k1 k2 k4 HL HA
 go_wp2_with fail
 go_ret
 exact ⟨rfl, HL2.out, HA2.out, HT2.out⟩
theorem cLeaveA {w : World} {B q b n p : Nat} {nd N : Int} {f : Int → Option Nat} {x : Ax} (hL : Lq w B q b n nd N f) (hA : Ap w B p x) (hw : (Lit.int .i64 x.c.i).wf = true) : Calls Tryz.prog 34 #[ptr q, ptr p] w (ActP w B q b n nd N f p x (none, [])) := by
 refine (cLeave hL hA hw).mono ?_
 rintro e w' ⟨rfl, h1, h2, h3⟩
 exact ⟨_, [], rfl, OutM.nil _ _, rfl, h3.mono fun k e => .inl e, h1⟩
set_option maxHeartbeats 4000000 in
set_option maxRecDepth 100000 in
theorem cFinish {w : World} {B q b n p : Nat} {nd N : Int} {f : Int → Option Nat} {x : Ax} (hL : Lq w B q b n nd N f) (hA : Ap w B p x) (hN : 3 ≤ N ∧ N ≤ 9) (hB : B ≤ w.heap.size) (hw : (Lit.int .i64 x.c.i).wf = true) {vt : Int} {vp : Sv} {vl : List C7} (hv : SetC B w vp.v vl) (hvl : vl.length ≤ 1024) : Calls Tryz.prog 29 #[ptr q, ptr p, .agg (varr vt vp)] w (ActP w B q b n nd N f p x (finF nd N x.att vt vl)) := by
 have HB0 : Hid (Below w.heap.size w (w.alloc (.cells (varr vt vp) 34))) := hid (laid1_b w _)
 have HO0 : Hid (OV (w.alloc (.cells (varr vt vp) 34)) w.heap.size vt vp) := hid (laid1_0 w _)
 have HL := hid (hL.on HB0.out)
 have HA := hid (hA.on HB0.out)
 have HV := hid (hv.on HB0.out)
 have hlv := cLeave HL.out HA.out hw
 have HVL := hid hvl
 have HNN := hid hN
 have HLN := hid hL.mp.lt
 have hbB := hL.lb
 clear hL hA hv hvl hw
 go_enter Tryz.func29, Tryz.ntmps29
 go_wp2_with (first
  | (go_at_call 34; refine hlv.mono ?_; rintro e w1 ⟨rfl, h1, h2, h3⟩; have HL1 := hid h1; have HA1 := hid h2; have HT1 := hid h3; have HO1 : Hid (OV w1 w.heap.size vt vp) := hid (h3.ob HO0.out (fun e => by have := HLN.out; omega)); have HV1 := hid (HV.out.tch h3 (fun k e => by subst e; exact ⟨HL.out.lb, HL.out.nob⟩)); have hta := cToAll HL1.out HA1.out HNN.out 7 vt vp vl false HV1.out.1 HVL.out; clear h1 h2 h3 hlv)
  | ((with_reducible refine loadVl (x := ?vx1) (b := w.heap.size) (o := 0) vt vp ?vg1 ?vo1 ?vxx1 ?vc1 ?_); (case vg1 => rfl); (case vo1 => rfl); (case vxx1 => rfl); (case vc1 => exact HO1.out.range))
  | ((with_reducible refine wpList_bldA 7 vt vp (x := ?bx2) ?bg2 ?bo2 ?be2 ?_); (case bg2 => rfl); (case bo2 => rfl); (case be2 => rfl))
  | (go_at_call 55; refine hta.mono ?_; rintro e w2 ⟨v, ls, rfl, ho, hs, hb⟩; have HO2 := hid ho; have HS2 := hid hs; have HB2 := hid hb; clear ho hs hb hta)
  | fail)
 go_ret
 refine ⟨v, ls, rfl, HO2.out.mono (Nat.le_trans HB0.out.size HT1.out.size), HS2.out, ?_, HL1.out.on HB2.out⟩
 exact ((Tch.ofBelow HB0.out).trans (HT1.out.mono fun k e => .inl e)).trans (Tch.ofBelow HB2.out)
set_option maxHeartbeats 8000000 in
set_option maxRecDepth 100000 in
theorem cCloseWith {w : World} {B q b n p : Nat} {nd N : Int} {f : Int → Option Nat} {x : Ax} (hL : Lq w B q b n nd N f) (hA : Ap w B p x) (hN : 3 ≤ N ∧ N ≤ 9) (hB : B ≤ w.heap.size) {vt : Int} {vp : Sv} {vl : List C7} (hv : SetC B w vp.v vl) (hvl : vl.length ≤ 1024) : Calls Tryz.prog 86 #[ptr q, ptr p, .agg (varr vt vp)] w (ActP w B q b n nd N f p x (closF nd N x.att vt vl)) := by
 have HB0 : Hid (Below w.heap.size w (w.alloc (.cells (varr vt vp) 34))) := hid (laid1_b w _)
 have HO0 : Hid (OV (w.alloc (.cells (varr vt vp) 34)) w.heap.size vt vp) := hid (laid1_0 w _)
 have HL := hid (hL.on HB0.out)
 have HA := hid (hA.on HB0.out)
 have HV := hid (hv.on HB0.out)
 have HVL := hid hvl
 have HNN := hid hN
 have HPL := hid hA.ob.lt
 clear hL hA hv hvl
 go_enter Tryz.func86, Tryz.ntmps86
 go_upto_region 1 with fail
 generalize (w.alloc (.cells (varr vt vp) 34)) = W0 at HB0 HO0 HL HA HV ⊢
 refine rh_start (S := fun W => Tch (fun k => k = p) W0 W) (n := 9) (listed := #[false, false, false, false, false, false, false, false, false]) (by kernel_rfl) rfl rfl ?_
 have HS0 : Hid (Tch (fun k => k = p) W0 W0.drew) := hid (Tch.ofBelow (belowDrew (Below.refl _ W0)))
 have HP0 : Hid (OA W0.drew p x) := hid HA.out.ob
 have HOV : Hid (∀ W, Tch (fun k => k = p) W0 W → OV W w.heap.size vt vp) := hid (fun W hW => hW.ob HO0.out (fun e => by have := HPL.out; omega))
 generalize W0.drew = wd at HS0 HP0 ⊢
 refine tkS 0 ?o3 ?v3 ?l3 ?a3 ?hi3 ?hq3 ?hl3 ?hw3 ?hv3 ?ha3 HS0.out ?hh3
 case hi3 => (simp only [List.getElem?_toArray, List.getElem?_cons_zero]; try rfl)
 case hq3 => exact fun _ _ _ h => h
 case hl3 => (simp only [List.setIfInBounds_toArray, List.set_cons_zero]; try rfl)
 case hw3 => rfl
 case hv3 =>
  intro W hW
  go_simp
  try with_reducible rfl
 case ha3 => (simp only [Act.put,gD,gE,gF]; try rfl)
 refine tkS 1 ?o4 ?v4 ?l4 ?a4 ?hi4 ?hq4 ?hl4 ?hw4 ?hv4 ?ha4 HS0.out ?hh4
 case hi4 => (simp only [gA,gB,gC]; try rfl)
 case hq4 => exact fun _ _ _ h => h
 case hl4 => (simp only [gD,gE,gF]; try rfl)
 case hw4 => rfl
 case hv4 =>
  intro W hW
  go_simp
  try with_reducible rfl
 case ha4 => (simp only [Act.put,gD,gE,gF]; try rfl)
 refine rh_load (i := 2) (o := ?o5) (cs := vcs vt vp) (T := 34) (x := ?x5) (b := ?b5) (q := ?q5) (listed' := ?l5) (a' := ?a5) ?hi5 (by kernel_rfl) (by kernel_rfl) (by kernel_rfl) ?hq5 ?hl5 ?hg5 ?ho5 ?hx5 ?hc5 Tryz.underlying34 rfl (infoVl vt vp) ?ha5 HS0.out ?hh5
 case hi5 => (simp only [gA,gB,gC]; try rfl)
 case hq5 => exact fun _ _ _ h => h
 case hl5 => (simp only [gD,gE,gF]; try rfl)
 case hg5 => rfl
 case ho5 => rfl
 case hx5 => rfl
 case hc5 => exact fun W hW => (HOV.out W hW).range
 case ha5 => (show Act.put _ _ (Value.agg (varr vt vp)) = _); (simp only [Act.put,gD,gE,gF]; try rfl)
 refine tkS 3 ?o6 ?v6 ?l6 ?a6 ?hi6 ?hq6 ?hl6 ?hw6 ?hv6 ?ha6 HS0.out ?hh6
 case hi6 => (simp only [gA,gB,gC]; try rfl)
 case hq6 => exact fun _ _ _ h => h
 case hl6 => (simp only [gD,gE,gF]; try rfl)
 case hw6 => rfl
 case hv6 =>
  intro W hW
  go_simp
  try with_reducible rfl
 case ha6 => (simp only [Act.put,gD,gE,gF]; try rfl)
 refine tkS 4 ?o7 ?v7 ?l7 ?a7 ?hi7 ?hq7 ?hl7 ?hw7 ?hv7 ?ha7 HS0.out ?hh7
 case hi7 => (simp only [gA,gB,gC]; try rfl)
 case hq7 => exact fun _ _ _ h => h
 case hl7 => (simp only [gD,gE,gF]; try rfl)
 case hw7 => rfl
 case hv7 =>
  intro W hW
  go_simp
  try with_reducible rfl
 case ha7 => (simp only [Act.put,gD,gE,gF]; try rfl)
 refine wpAnyH_ready (rs := [5]) (by kernel_rfl) (by simp) ?_
 refine rh_storeAp (i := 5) (o := ?o8) (listed' := ?l8) (x := ?x8) (y := ?y8) (p := p) (x) ({ x with ph := 4 }) (4) ?hi8 ?hl8 ?hg8 ?ho8 ?hx8 ?hy8 ?hd8 HP0.out rfl ?hh8 ?hs8
 case hi8 => (simp only [gA,gB,gC]; try rfl)
 case hl8 => (simp only [gD,gE,gF]; try rfl)
 case hg8 => rfl
 case ho8 => rfl
 case hx8 => rfl
 case hy8 => rfl
 case hd8 => rfl
 case hs8 => exact AllReadyH.nil
 intro wq hO hU
 have HP1 := hid hO
 have HS1 := hid (HS0.out.trans hU.tch)
 clear hO hU
 refine ⟨HS1.out, ?_⟩
 refine tkS 6 ?o9 ?v9 ?l9 ?a9 ?hi9 ?hq9 ?hl9 ?hw9 ?hv9 ?ha9 HS1.out ?hh9
 case hi9 => (simp only [gA,gB,gC]; try rfl)
 case hq9 => exact fun _ _ _ h => h
 case hl9 => (simp only [gD,gE,gF]; try rfl)
 case hw9 => rfl
 case hv9 =>
  intro W hW
  go_simp
  try with_reducible rfl
 case ha9 => (simp only [Act.put,gD,gE,gF]; try rfl)
 refine tkS 7 ?o10 ?v10 ?l10 ?a10 ?hi10 ?hq10 ?hl10 ?hw10 ?hv10 ?ha10 HS1.out ?hh10
 case hi10 => (simp only [gA,gB,gC]; try rfl)
 case hq10 => exact fun _ _ _ h => h
 case hl10 => (simp only [gD,gE,gF]; try rfl)
 case hw10 => rfl
 case hv10 =>
  intro W hW
  go_simp
  try with_reducible rfl
 case ha10 => (simp only [Act.put,gD,gE,gF]; try rfl)
 refine wpAnyH_ready (rs := [8]) (by kernel_rfl) (by simp) ?_
 refine rh_storeAV (i := 8) (o := ?o11) (listed' := ?l11) (x := ?x11) (y := ?y11) (p := p) ({ x with ph := 4 }) vt vp vl ?hi11 ?hl11 ?hg11 ?ho11 ?hx11 ?hy11 ?hd11 HP1.out ?hh11 ?hs11
 case hi11 => (simp only [gA,gB,gC]; try rfl)
 case hl11 => (simp only [gD,gE,gF]; try rfl)
 case hg11 => rfl
 case ho11 => rfl
 case hx11 => rfl
 case hy11 => rfl
 case hd11 => rfl
 case hs11 => exact AllReadyH.nil
 intro we hO hU
 have HP2 : Hid (OA we p { x with ph := 4, vt := vt, vp := vp, vl := vl }) := hid hO
 have HS2 := hid (HS1.out.trans hU.tch)
 clear hO hU HP0 HP1 HS0 HS1
 refine ⟨HS2.out, ?_⟩
 refine wpAnyH_done (by kernel_rfl) ?_ _
 have hnc : ∀ k, k = p → B ≤ k ∧ ∀ cur fz, W0.heap[k]? ≠ some (.cells cur 42 fz) := fun k e => by subst e; exact ⟨HA.out.lb, HA.out.ob.no⟩
 have HLe : Hid (Lq we B q b n nd N f) := hid (HL.out.tch HS2.out (fun e => (HL.out.qa HA.out).1 (.inl e)) (fun e => (HL.out.qa HA.out).2 (.inl e)))
 have HVe : Hid (SetC B we vp.v vl) := hid (HV.out.tch HS2.out hnc)
 have HOe : Hid (OV we w.heap.size vt vp) := hid (HOV.out _ HS2.out)
 have HAe : Hid (Ap we B p { x with ph := 4, vt := vt, vp := vp, vl := vl }) := hid ⟨HP2.out, own_tch HA.out.ow HS2.out (fun k hk e => HA.out.pr (e ▸ hk)), HVe.out, fun m hm => (HA.out.rs m hm).tch HS2.out hnc, HA.out.lb⟩
 have hta := cToAll HLe.out HAe.out HNN.out 5 vt vp vl false HVe.out.1 HVL.out
 clear hnc HV HO0
 go_wp2_with (first
  | ((with_reducible refine loadVl (x := ?vx12) (b := w.heap.size) (o := 0) vt vp ?vg12 ?vo12 ?vxx12 ?vc12 ?_); (case vg12 => rfl); (case vo12 => rfl); (case vxx12 => rfl); (case vc12 => exact HOe.out.range))
  | ((with_reducible refine wpList_bldA 5 vt vp (x := ?bx13) ?bg13 ?bo13 ?be13 ?_); (case bg13 => rfl); (case bo13 => rfl); (case be13 => rfl))
  | (go_at_call 55; refine hta.mono ?_; rintro e w2 ⟨v, ls, rfl, ho, hs, hb⟩; have HO2 := hid ho; have HSS := hid hs; have HB2 := hid hb; clear ho hs hb hta)
  | fail)
 go_ret
 refine ⟨v, ls, rfl, HO2.out.mono (Nat.le_trans HB0.out.size HS2.out.size), HSS.out, ?_, HLe.out.on HB2.out, _, rfl, HAe.out.on HB2.out, fun k hk => .inl hk, fun k hk e => by have h1 := (HO2.out.2.2.2 k hk).1; have h2 := (HAe.out.ow.lt k e).2; omega⟩
 exact ((Tch.ofBelow HB0.out).trans (HS2.out.mono fun k e => .inr (.inl e))).trans (Tch.ofBelow HB2.out)
set_option maxHeartbeats 8000000 in
set_option maxRecDepth 100000 in
theorem cPropose {w : World} {B q b n p : Nat} {nd N : Int} {f : Int → Option Nat} {x : Ax} (hL : Lq w B q b n nd N f) (hA : Ap w B p x) (hN : 3 ≤ N ∧ N ≤ 9) (hB : B ≤ w.heap.size) (hl : x.rs.length ≤ 1000) {vt : Int} {vp : Sv} {vl : List C7} (ex : Bool) (hv : SetC B w vp.v vl) (hvl : vl.length ≤ 1024) : Calls Tryz.prog 104 #[ptr q, ptr p, .agg (varr vt vp), .bool ex] w (ActP w B q b n nd N f p x (propF nd N x.att vt vl ex)) := by
 have HLEN := hid hl
 clear hl
 have HB0 : Hid (Below w.heap.size w (w.alloc (.cells (varr vt vp) 34))) := hid (laid1_b w _)
 have HO0 : Hid (OV (w.alloc (.cells (varr vt vp) 34)) w.heap.size vt vp) := hid (laid1_0 w _)
 have HL := hid (hL.on HB0.out)
 have HA := hid (hA.on HB0.out)
 have HV := hid (hv.on HB0.out)
 have HVL := hid hvl
 have HNN := hid hN
 have HPL := hid hA.ob.lt
 clear hL hA hv hvl
 go_enter Tryz.func104, Tryz.ntmps104
 go_upto_region 1 with fail
 generalize (w.alloc (.cells (varr vt vp) 34)) = W0 at HB0 HO0 HL HA HV ⊢
 refine rh_start (S := fun W => Tch (fun k => k = p) W0 W) (n := 14) (listed := #[false, false, false, false, false, false, false, false, false, false, false, false, false, false]) (by kernel_rfl) rfl rfl ?_
 have HS0 : Hid (Tch (fun k => k = p) W0 W0.drew) := hid (Tch.ofBelow (belowDrew (Below.refl _ W0)))
 have HP0 : Hid (OA W0.drew p x) := hid HA.out.ob
 have HOV : Hid (∀ W, Tch (fun k => k = p) W0 W → OV W w.heap.size vt vp) := hid (fun W hW => hW.ob HO0.out (fun e => by have := HPL.out; omega))
 generalize W0.drew = wd at HS0 HP0 ⊢
 refine tkS 0 ?o14 ?v14 ?l14 ?a14 ?hi14 ?hq14 ?hl14 ?hw14 ?hv14 ?ha14 HS0.out ?hh14
 case hi14 => (simp only [List.getElem?_toArray, List.getElem?_cons_zero]; try rfl)
 case hq14 => exact fun _ _ _ h => h
 case hl14 => (simp only [List.setIfInBounds_toArray, List.set_cons_zero]; try rfl)
 case hw14 => rfl
 case hv14 =>
  intro W hW
  go_simp
  try with_reducible rfl
 case ha14 => (simp only [Act.put,gD,gE,gF]; try rfl)
 refine tkS 1 ?o15 ?v15 ?l15 ?a15 ?hi15 ?hq15 ?hl15 ?hw15 ?hv15 ?ha15 HS0.out ?hh15
 case hi15 => (simp only [gA,gB,gC]; try rfl)
 case hq15 => exact fun _ _ _ h => h
 case hl15 => (simp only [gD,gE,gF]; try rfl)
 case hw15 => rfl
 case hv15 =>
  intro W hW
  go_simp
  try with_reducible rfl
 case ha15 => (simp only [Act.put,gD,gE,gF]; try rfl)
 refine tkS 2 ?o16 ?v16 ?l16 ?a16 ?hi16 ?hq16 ?hl16 ?hw16 ?hv16 ?ha16 HS0.out ?hh16
 case hi16 => (simp only [gA,gB,gC]; try rfl)
 case hq16 => exact fun _ _ _ h => h
 case hl16 => (simp only [gD,gE,gF]; try rfl)
 case hw16 => rfl
 case hv16 =>
  intro W hW
  go_simp
  try with_reducible rfl
 case ha16 => (simp only [Act.put,gD,gE,gF]; try rfl)
 refine rh_load (i := 3) (o := ?o17) (cs := vcs vt vp) (T := 34) (x := ?x17) (b := ?b17) (q := ?q17) (listed' := ?l17) (a' := ?a17) ?hi17 (by kernel_rfl) (by kernel_rfl) (by kernel_rfl) ?hq17 ?hl17 ?hg17 ?ho17 ?hx17 ?hc17 Tryz.underlying34 rfl (infoVl vt vp) ?ha17 HS0.out ?hh17
 case hi17 => (simp only [gA,gB,gC]; try rfl)
 case hq17 => exact fun _ _ _ h => h
 case hl17 => (simp only [gD,gE,gF]; try rfl)
 case hg17 => rfl
 case ho17 => rfl
 case hx17 => rfl
 case hc17 => exact fun W hW => (HOV.out W hW).range
 case ha17 => (show Act.put _ _ (Value.agg (varr vt vp)) = _); (simp only [Act.put,gD,gE,gF]; try rfl)
 refine tkS 4 ?o18 ?v18 ?l18 ?a18 ?hi18 ?hq18 ?hl18 ?hw18 ?hv18 ?ha18 HS0.out ?hh18
 case hi18 => (simp only [gA,gB,gC]; try rfl)
 case hq18 => exact fun _ _ _ h => h
 case hl18 => (simp only [gD,gE,gF]; try rfl)
 case hw18 => rfl
 case hv18 =>
  intro W hW
  go_simp
  try with_reducible rfl
 case ha18 => (simp only [Act.put,gD,gE,gF]; try rfl)
 refine tkS 5 ?o19 ?v19 ?l19 ?a19 ?hi19 ?hq19 ?hl19 ?hw19 ?hv19 ?ha19 HS0.out ?hh19
 case hi19 => (simp only [gA,gB,gC]; try rfl)
 case hq19 => exact fun _ _ _ h => h
 case hl19 => (simp only [gD,gE,gF]; try rfl)
 case hw19 => rfl
 case hv19 =>
  intro W hW
  go_simp
  try with_reducible rfl
 case ha19 => (simp only [Act.put,gD,gE,gF]; try rfl)
 refine tkS 6 ?o20 ?v20 ?l20 ?a20 ?hi20 ?hq20 ?hl20 ?hw20 ?hv20 ?ha20 HS0.out ?hh20
 case hi20 => (simp only [gA,gB,gC]; try rfl)
 case hq20 => exact fun _ _ _ h => h
 case hl20 => (simp only [gD,gE,gF]; try rfl)
 case hw20 => rfl
 case hv20 =>
  intro W hW
  go_simp
  try with_reducible rfl
 case ha20 => (simp only [Act.put,gD,gE,gF]; try rfl)
 refine wpAnyH_ready (rs := [7]) (by kernel_rfl) (by simp) ?_
 refine rh_storeAp (i := 7) (o := ?o21) (listed' := ?l21) (x := ?x21) (y := ?y21) (p := p) (x) ({ x with ph := 3 }) (3) ?hi21 ?hl21 ?hg21 ?ho21 ?hx21 ?hy21 ?hd21 HP0.out rfl ?hh21 ?hs21
 case hi21 => (simp only [gA,gB,gC]; try rfl)
 case hl21 => (simp only [gD,gE,gF]; try rfl)
 case hg21 => rfl
 case ho21 => rfl
 case hx21 => rfl
 case hy21 => rfl
 case hd21 => rfl
 case hs21 => exact AllReadyH.nil
 intro wq hO hU
 have HP1 := hid hO
 have HS1 := hid (HS0.out.trans hU.tch)
 clear hO hU
 refine ⟨HS1.out, ?_⟩
 refine tkS 8 ?o22 ?v22 ?l22 ?a22 ?hi22 ?hq22 ?hl22 ?hw22 ?hv22 ?ha22 HS1.out ?hh22
 case hi22 => (simp only [gA,gB,gC]; try rfl)
 case hq22 => exact fun _ _ _ h => h
 case hl22 => (simp only [gD,gE,gF]; try rfl)
 case hw22 => rfl
 case hv22 =>
  intro W hW
  go_simp
  try with_reducible rfl
 case ha22 => (simp only [Act.put,gD,gE,gF]; try rfl)
 refine tkS 9 ?o23 ?v23 ?l23 ?a23 ?hi23 ?hq23 ?hl23 ?hw23 ?hv23 ?ha23 HS1.out ?hh23
 case hi23 => (simp only [gA,gB,gC]; try rfl)
 case hq23 => exact fun _ _ _ h => h
 case hl23 => (simp only [gD,gE,gF]; try rfl)
 case hw23 => rfl
 case hv23 =>
  intro W hW
  go_simp
  try with_reducible rfl
 case ha23 => (simp only [Act.put,gD,gE,gF]; try rfl)
 refine wpAnyH_ready (rs := [10]) (by kernel_rfl) (by simp) ?_
 refine rh_storeAV (i := 10) (o := ?o24) (listed' := ?l24) (x := ?x24) (y := ?y24) (p := p) ({ x with ph := 3 }) vt vp vl ?hi24 ?hl24 ?hg24 ?ho24 ?hx24 ?hy24 ?hd24 HP1.out ?hh24 ?hs24
 case hi24 => (simp only [gA,gB,gC]; try rfl)
 case hl24 => (simp only [gD,gE,gF]; try rfl)
 case hg24 => rfl
 case ho24 => rfl
 case hx24 => rfl
 case hy24 => rfl
 case hd24 => rfl
 case hs24 => exact AllReadyH.nil
 intro wr hO hU
 have HP2 : Hid (OA wr p { x with ph := 3, vt := vt, vp := vp, vl := vl }) := hid hO
 have HS2 := hid (HS1.out.trans hU.tch)
 clear hO hU HP0 HP1 HS0 HS1
 refine ⟨HS2.out, ?_⟩
 refine tkS 11 ?o25 ?v25 ?l25 ?a25 ?hi25 ?hq25 ?hl25 ?hw25 ?hv25 ?ha25 HS2.out ?hh25
 case hi25 => (simp only [gA,gB,gC]; try rfl)
 case hq25 => exact fun _ _ _ h => h
 case hl25 => (simp only [gD,gE,gF]; try rfl)
 case hw25 => rfl
 case hv25 =>
  intro W hW
  go_simp
  try with_reducible rfl
 case ha25 => (simp only [Act.put,gD,gE,gF]; try rfl)
 refine tkS 12 ?o26 ?v26 ?l26 ?a26 ?hi26 ?hq26 ?hl26 ?hw26 ?hv26 ?ha26 HS2.out ?hh26
 case hi26 => (simp only [gA,gB,gC]; try rfl)
 case hq26 => exact fun _ _ _ h => h
 case hl26 => (simp only [gD,gE,gF]; try rfl)
 case hw26 => rfl
 case hv26 =>
  intro W hW
  go_simp
  try with_reducible rfl
 case ha26 => (simp only [Act.put,gD,gE,gF]; try rfl)
 refine wpAnyH_ready (rs := [13]) (by kernel_rfl) (by simp) ?_
 refine rh_storeAb (i := 13) (o := ?o27) (listed' := ?l27) (x := ?x27) (y := ?y27) (p := p) ({ x with ph := 3, vt := vt, vp := vp, vl := vl }) ({ x with ph := 3, vt := vt, vp := vp, vl := vl, ex := ex }) (ex) ?hi27 ?hl27 ?hg27 ?ho27 ?hx27 ?hy27 ?hd27 HP2.out rfl ?hh27 ?hs27
 case hi27 => (simp only [gA,gB,gC]; try rfl)
 case hl27 => (simp only [gD,gE,gF]; try rfl)
 case hg27 => rfl
 case ho27 => rfl
 case hx27 => rfl
 case hy27 => rfl
 case hd27 => rfl
 case hs27 => exact AllReadyH.nil
 intro we hO hU
 have HP3 : Hid (OA we p { x with ph := 3, vt := vt, vp := vp, vl := vl, ex := ex }) := hid hO
 have HS3 := hid (HS2.out.trans hU.tch)
 clear hO hU HP2 HS2
 refine ⟨HS3.out, ?_⟩
 have HS2 := HS3
 refine wpAnyH_done (by kernel_rfl) ?_ _
 have hnc : ∀ k, k = p → B ≤ k ∧ ∀ cur fz, W0.heap[k]? ≠ some (.cells cur 42 fz) := fun k e => by subst e; exact ⟨HA.out.lb, HA.out.ob.no⟩
 have HLe : Hid (Lq we B q b n nd N f) := hid (HL.out.tch HS2.out (fun e => (HL.out.qa HA.out).1 (.inl e)) (fun e => (HL.out.qa HA.out).2 (.inl e)))
 have HVe : Hid (SetC B we vp.v vl) := hid (HV.out.tch HS2.out hnc)
 have HOe : Hid (OV we w.heap.size vt vp) := hid (HOV.out _ HS2.out)
 have HAe : Hid (Ap we B p { x with ph := 3, vt := vt, vp := vp, vl := vl, ex := ex }) := hid ⟨HP3.out, own_tch HA.out.ow HS2.out (fun k hk e => HA.out.pr (e ▸ hk)), HVe.out, fun m hm => (HA.out.rs m hm).tch HS2.out hnc, HA.out.lb⟩
 clear hnc HV HO0 HP3
 have HQ4 : Hid (Below we.heap.size we (we.alloc (.cells #[.int .i64 4] 46))) := hid (laid1_b we _)
 have HR4 : Hid (SoR (we.alloc (.cells #[.int .i64 4] 46)) we.heap.size [4]) := hid (sor1 we 4)
 have hsd := cSaid (cap := 1) (HAe.out.on HQ4.out) HLEN.out HR4.out (by simp) (by decide)
 go_upto_region 3 with (first
  | (go_at_call 56; refine hsd.mono ?_; rintro e w1 ⟨v0, rfl, ho, hB⟩; obtain ⟨ra, rc, rn, rfl, hrn⟩ := OwnG.asSlice ho; clear hrn; have HR1 := hid ho; have HB1 : Hid (Below we.heap.size we w1) := hid (HQ4.out.trans (hB.mono HQ4.out.size)); have HSZ : Hid (we.heap.size ≤ w1.heap.size) := hid HB1.out.size; have HA1 := hid (HAe.out.on HB1.out); have c12 := HA1.out.cells.2.2.2.2.2.1; have f12 := HA1.out.ob.free 12; clear ho hB hsd)
  | fail)
 obtain ⟨W2, hW2⟩ : ∃ z, z = w1.setCell ⟨p, 12, none⟩ (.slice ra rn rc) := ⟨_, rfl⟩
 rw [← hW2]
 have HT2 : Hid (Tch (fun k => k = p) w1 W2) := hid (by rw [hW2]; exact setV_tch w1 p 12 _)
 have HP2 : Hid (OA W2 p { x with ph := 3, vt := vt, vp := vp, vl := vl, ex := ex, rv := ⟨ra, rn, rc⟩, rs := saidM [4] x.rs }) := hid (by rw [hW2]; exact HA1.out.ob.set rfl)
 clear hW2 c12 f12
 have hnc : ∀ k, k = p → B ≤ k ∧ ∀ cur fz, w1.heap[k]? ≠ some (.cells cur 42 fz) := fun k e => by subst e; exact ⟨HA1.out.lb, HA1.out.ob.no⟩
 have HWB : Hid (w.heap.size ≤ we.heap.size) := hid (Nat.le_trans HB0.out.size HS2.out.size)
 have HRN : Hid (∀ k, (Value.slice ra rn rc).ownBlock = some k → we.heap.size ≤ k) := hid (fun k hk => Nat.le_trans HQ4.out.size (HR1.out.lt k hk).1)
 have HL2 : Hid (Lq W2 B q b n nd N f) := hid ((HLe.out.on HB1.out).tch HT2.out (fun e => ((HLe.out.on HB1.out).qa HA1.out).1 (.inl e)) (fun e => ((HLe.out.on HB1.out).qa HA1.out).2 (.inl e)))
 have HV2 : Hid (SetC B W2 vp.v vl) := hid ((HVe.out.on HB1.out).tch HT2.out hnc)
 have HO2 : Hid (OV W2 w.heap.size vt vp) := hid (HT2.out.ob (HOe.out.on HB1.out) (fun e => by have := HPL.out; omega))
 have HA2 : Hid (Ap W2 B p { x with ph := 3, vt := vt, vp := vp, vl := vl, ex := ex, rv := ⟨ra, rn, rc⟩, rs := saidM [4] x.rs }) := hid ⟨HP2.out, own_tch (OwnG.mono HR1.out (Nat.le_trans hB (Nat.le_trans HWB.out HQ4.out.size))) HT2.out (fun k hk e => by have h1 := HRN.out k hk; have h2 := HPL.out; have h3 := HWB.out; omega), HV2.out, fun m hm => (HA1.out.rs m (saidM_mem hm)).tch HT2.out hnc, HA1.out.lb⟩
 have HAT : Hid (({ x with ph := 3, vt := vt, vp := vp, vl := vl, ex := ex, rv := ⟨ra, rn, rc⟩, rs := saidM [4] x.rs } : Ax).att = { x.att with ph := 3, vt := vt, vl := vl, ex := ex, rs := proL x.att }) := hid (by unfold Ax.att proL; simp only [saidM_an])
 have hta := cToAll HL2.out HA2.out HNN.out 0 vt vp vl ex HV2.out.1 HVL.out
 clear hnc
 go_wp2_with (first
  | ((with_reducible refine loadVl (x := ?vx28) (b := w.heap.size) (o := 0) vt vp ?vg28 ?vo28 ?vxx28 ?vc28 ?_); (case vg28 => rfl); (case vo28 => rfl); (case vxx28 => rfl); (case vc28 => exact HO2.out.range))
  | ((with_reducible refine wpList_bldF 0 vt vp ex (x := ?bx29) (y := ?by29) ?bg29 ?bo29 ?be29 ?bf29 ?_); (case bg29 => rfl); (case bo29 => rfl); (case be29 => rfl); (case bf29 => rfl))
  | (go_at_call 55; refine hta.mono ?_; rintro e w3 ⟨v, ls, rfl, ho, hs, hb⟩; have HO3 := hid ho; have HSS := hid hs; have HB3 := hid hb; clear ho hs hb hta)
  | fail)
 go_ret
 refine ⟨v, ls, rfl, HO3.out.mono (Nat.le_trans HWB.out (Nat.le_trans HSZ.out HT2.out.size)), HSS.out, ?_, HL2.out.on HB3.out, _, HAT.out, HA2.out.on HB3.out, fun k hk => .inr (Nat.le_trans HWB.out (HRN.out k hk)), fun k hk e => by have h1 := (HO3.out.2.2.2 k hk).1; have h2 := (HA2.out.ow.lt k e).2; omega⟩
 exact ((((Tch.ofBelow HB0.out).trans (HS2.out.mono fun k e => .inr (.inl e))).trans (Tch.ofBelow HB1.out)).trans (HT2.out.mono fun k e => .inr (.inl e))).trans (Tch.ofBelow HB3.out)
end Go.Proofs.YtplodoindppleaaGreat
namespace Go.Proofs.YtplodoindppleaaGreat
set_option linter.unusedVariables false
open Go.RowKit
open Go.Lib (hid)
set_option maxHeartbeats 8000000 in
set_option maxRecDepth 100000 in
theorem cMayB {w : World} {m : Ms} (hm : m.at w) (hms : m.short 1024) : Calls Tryz.prog 119 #[.agg m.m.arr] w fun e w' => e = .returned (.bool (mayB m)) ∧ Below w.heap.size w w' := by
 have HB := hid (laid1_b w (.cells m.m.arr 48))
 have HM : Hid (OM (w.alloc (.cells m.m.arr 48)) w.heap.size m.m) := hid (laid1_0 w _)
 obtain ⟨so, hso⟩ : ∃ z, z = m.m.so := ⟨_, rfl⟩
 have HSO := hid hso
 clear hso
 obtain ⟨r, hr⟩ : ∃ z, z = rightM m := ⟨_, rfl⟩
 have HR := hid hr
 have HMB : Hid (mayB m = ((decide (so = 4) || decide (so = 7)) && r)) := hid (by unfold mayB; rw [HSO.out, hr])
 have HC : Hid (∀ W, Below w.heap.size w W → Calls Tryz.prog 28 #[.agg m.m.arr] W fun e w' => e = .returned (.bool r) ∧ Below W.heap.size W w') := hid (fun W hW => by rw [hr]; exact cRightM (hm.on hW) hms)
 clear hr hm hms
 go_enter Tryz.func119, Tryz.ntmps119
 go_upto_region 1 with fail
 generalize (w.alloc (.cells m.m.arr 48)) = W0 at HB HM ⊢
 have k0 : W0.cell? ⟨w.heap.size, 0, none⟩ = some (.int .i64 so) := by rw [HSO.out]; exact HM.out.cell (m := m.m) (j := 0) rfl
 by_cases h4 : so = 4
 · have s4 : (so == 4) = true := by simp [h4]
   have HH := hid h4
   clear h4
   go_wp2_with (first
    | ((with_reducible refine loadGM (x := ?lx1) (b := w.heap.size) m.m ?lg1 ?lo1 ?lxx1 ?lc1 ?_); (case lg1 => first | rfl | kernel_rfl | (simp; done)); (case lo1 => rfl); (case lxx1 => rfl); (case lc1 => exact HM.out))
    | (go_at_call 28; refine (HC.out _ HB.out).mono ?_; rintro e w1 ⟨rfl, hB⟩; have HB1 := hid (HB.out.trans (hB.mono HB.out.size)); clear hB)
    | fail)
   go_ret
   exact ⟨by rw [HMB.out]; simp [HH.out], HB1.out⟩
 · by_cases h7 : so = 7
   · have s4 : (so == 4) = false := by simp [h4]
     have s7 : (so == 7) = true := by simp [h7]
     have HH := hid h7
     clear h4 h7
     go_wp2_with (first
      | ((with_reducible refine loadGM (x := ?lx2) (b := w.heap.size) m.m ?lg2 ?lo2 ?lxx2 ?lc2 ?_); (case lg2 => first | rfl | kernel_rfl | (simp; done)); (case lo2 => rfl); (case lxx2 => rfl); (case lc2 => exact HM.out))
      | (go_at_call 28; refine (HC.out _ HB.out).mono ?_; rintro e w1 ⟨rfl, hB⟩; have HB1 := hid (HB.out.trans (hB.mono HB.out.size)); clear hB)
      | fail)
     go_ret
     exact ⟨by rw [HMB.out]; simp [HH.out], HB1.out⟩
   · have s4 : (so == 4) = false := by simp [h4]
     have s7 : (so == 7) = false := by simp [h7]
     have HH := hid (And.intro h4 h7)
     clear h4 h7
     go_wp2_with fail
     go_ret
     exact ⟨by rw [HMB.out]; simp [HH.out], HB.out⟩
end Go.Proofs.YtplodoindppleaaGreat
