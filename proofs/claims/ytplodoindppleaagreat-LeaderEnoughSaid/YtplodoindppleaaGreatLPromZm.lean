import Derived.Test.YtplodoindppleaaGreatLReplyZm
namespace Go.Proofs.YtplodoindppleaaGreat
set_option linter.unusedVariables false
open Go.RowKit
open Go.Lib (hid)
theorem OC.vR {w : World} {q : Nat} {k t : Int} {p : Sv} (h : OC w q k t p) : w.rangeAt q 1 (vcs t p) := fun i u hu => by
 rcases i with _ | _ | i
 · obtain rfl := Option.some.inj hu; exact (cellAt' h 1).trans rfl
 · obtain rfl := Option.some.inj hu; exact (cellAt' h 2).trans rfl
 · simp [vcs] at hu
theorem OC.cells {w : World} {q : Nat} {k t : Int} {p : Sv} (h : OC w q k t p) : w.cell? ⟨q, 0, none⟩ = some (.int .i64 k) ∧ w.cell? ⟨q, 1, none⟩ = some (.int .i64 t) ∧ w.cell? ⟨q, 2, none⟩ = some (.slice p.a p.n p.c) := ⟨(cellAt' h 0).trans rfl, (cellAt' h 1).trans rfl, (cellAt' h 2).trans rfl⟩
theorem OC.on {w w' : World} {q : Nat} {k t : Int} {p : Sv} (h : OC w q k t p) (hb : Below w.heap.size w w') : OC w' q k t p := heapB h hb (Array.getElem?_eq_some_iff.1 h).1
theorem loadCl {ops : Array Oper} {rest : List Oper} {op : Oper} {c : Act} {w : World} {Q : Exit → Act → World → Prop} {x : Operand} {b : Nat} (k t : Int) (p : Sv) (hgd : op.guard = none) (ho : op.op = .load 97 x)
 (hx : c.eval x = .pointer (some ⟨b, 0, none⟩)) (hc : w.rangeAt b 0 (ccs k t p)) (h : wpList Tryz.prog ops Q rest (c.put op.dst (.agg (carr k t p))) w) : wpList Tryz.prog ops Q (op :: rest) c w :=
 wpList_load_mid hgd 97 x ho b 0 hx (ccs k t p) _ hc Tryz.underlying97 rfl (infoCl k t p) h
set_option maxHeartbeats 8000000 in
set_option maxRecDepth 100000 in
theorem cGoOn {w : World} {B q b n p : Nat} {nd N : Int} {f : Int → Option Nat} {x : Ax} (hL : Lq w B q b n nd N f) (hA : Ap w B p x) (hN : 3 ≤ N ∧ N ≤ 9) (hB : B ≤ w.heap.size) (hz : Sz 38 x) {ck ct : Int} {cr : Sv} {cl : List C7} {e0 : Int} (hk : ck = 0 ∨ ck = 1 ∨ ck = 2 ∨ ck = 3) (hr : SetC B w cr.v cl) (hl : cl.length ≤ 1024) : Calls Tryz.prog 71 #[ptr q, ptr p, .agg (carr ck ct cr)] w (ActP w B q b n nd N f p x (goOnF nd N x.att ⟨ck, ct, cl, e0⟩)) := by
 have HB0 : Hid (Below w.heap.size w (w.alloc (.cells (carr ck ct cr) 97))) := hid (laid1_b w _)
 have HO0 : Hid (OC (w.alloc (.cells (carr ck ct cr) 97)) w.heap.size ck ct cr) := hid (laid1_0 w _)
 have HL0 := hid hL
 have HA0 := hid hA
 have HL := hid (hL.on HB0.out)
 have HA := hid (hA.on HB0.out)
 have HR := hid (hr.on HB0.out)
 have HRL := hid hl
 have HZ := hid hz
 have HNN := hid hN
 have HBB := hid (Nat.le_trans hB HB0.out.size)
 clear hL hA hz hr hl hB
 unfold goOnF
 obtain ⟨ph, hph⟩ : ∃ z, z = x.ph := ⟨_, rfl⟩
 have HPH := hid hph
 obtain ⟨xt, hxt⟩ : ∃ z, z = x.vt := ⟨_, rfl⟩
 have HXT := hid hxt
 rw [show x.att.ph = ph from hph.symm, show x.att.vt = xt from hxt.symm, show x.att.vl = x.vl from rfl]
 clear hph hxt
 have c0 := HO0.out.cells.1
 rcases hk with hk0 | hk0 | hk0 | hk0
 · as_aux_lemma =>
    subst hk0
    rw [if_pos rfl]
    go_enter Tryz.func71, Tryz.ntmps71
    have hca := cFinish HL.out HA.out HNN.out HBB.out HZ.out.wf (vt := ct) HR.out HRL.out
    go_wp2_with (first
     | ((with_reducible refine loadVl (x := ?vx1) (b := w.heap.size) (o := 1) ct cr ?vg1 ?vo1 ?vxx1 ?vc1 ?_); (case vg1 => rfl); (case vo1 => rfl); (case vxx1 => rfl); (case vc1 => exact HO0.out.vR))
     | (go_at_call 29; refine hca.mono ?_; intro e w6 h2; have H2 := hid h2; obtain ⟨v, ls, rfl, h3⟩ := h2; have H3 := hid h3; clear h3 hca)
     | fail)
    go_ret
    exact ActP.from (x := x) H2.out (Tch.ofBelow HB0.out) rfl (fun k hk => .inl hk)
 · as_aux_lemma =>
    subst hk0
    rw [if_neg (fun h => absurd (show (1 : Int) = 0 from h) (by decide)), if_pos rfl]
    go_enter Tryz.func71, Tryz.ntmps71
    have hca := cCloseWith HL.out HA.out HNN.out HBB.out (vt := ct) HR.out HRL.out
    go_wp2_with (first
     | ((with_reducible refine loadVl (x := ?vx2) (b := w.heap.size) (o := 1) ct cr ?vg2 ?vo2 ?vxx2 ?vc2 ?_); (case vg2 => rfl); (case vo2 => rfl); (case vxx2 => rfl); (case vc2 => exact HO0.out.vR))
     | (go_at_call 86; refine hca.mono ?_; intro e w6 h2; have H2 := hid h2; obtain ⟨v, ls, rfl, h3⟩ := h2; have H3 := hid h3; clear h3 hca)
     | fail)
    go_ret
    exact ActP.from (x := x) H2.out (Tch.ofBelow HB0.out) rfl (fun k hk => .inl hk)
 · subst hk0
   by_cases h3 : ph = 3
   · subst h3
     by_cases h4 : xt = ct
     · subst h4
       by_cases hs : sameB x.vl cl = true
       · as_aux_lemma =>
          rw [if_neg (fun h => absurd (show (2 : Int) = 0 from h) (by decide)), if_neg (fun h => absurd (show (2 : Int) = 1 from h) (by decide)), if_pos rfl, if_pos ⟨rfl, rfl, hs⟩]
          go_enter Tryz.func71, Tryz.ntmps71
          go_upto_region 7 with fail
          generalize (w.alloc (.cells (carr 2 xt cr) 97)) = W0 at HB0 HO0 HL HA HR HBB c0 ⊢
          refine rh_start (S := fun W => Below W0.heap.size W0 W) (n := 27) (listed := #[false, false, false, false, false, false, false, false, false, false, false, false, false, false, false, false, false, false, false, false, false, false, false, false, false, false, false]) (by kernel_rfl) rfl rfl ?_
          have HS0 : Hid (Below W0.heap.size W0 W0.drew) := hid (belowDrew (Below.refl _ W0))
          have HCW : Hid (∀ W, Below W0.heap.size W0 W → W.cell? ⟨p, 8, none⟩ = some (.int .i64 3) ∧ W.cell? ⟨p, 9, none⟩ = some (.int .i64 xt) ∧ W.cell? ⟨p, 10, none⟩ = some (.slice x.vp.a x.vp.n x.vp.c) ∧ W.cell? ⟨w.heap.size, 1, none⟩ = some (.int .i64 xt) ∧ W.cell? ⟨w.heap.size, 2, none⟩ = some (.slice cr.a cr.n cr.c)) := hid (fun W hW => ⟨by rw [HPH.out]; exact (HA.out.on hW).cells.2.1, by rw [HXT.out]; exact (HA.out.on hW).cells.2.2.1, (HA.out.on hW).cells.2.2.2.1, (HO0.out.on hW).cells.2⟩)
          generalize W0.drew = wd at HS0 ⊢
          refine tkS 0 ?o5 ?v5 ?l5 ?a5 ?hi5 ?hq5 ?hl5 ?hw5 ?hv5 ?ha5 HS0.out ?hh5
          case hi5 => (simp only [List.getElem?_toArray, List.getElem?_cons_zero]; try rfl)
          case hq5 => exact fun _ _ _ h => h
          case hl5 => (simp only [List.setIfInBounds_toArray, List.set_cons_zero]; try rfl)
          case hw5 => rfl
          case hv5 =>
           intro W hW
           go_simp
           try with_reducible rfl
          case ha5 => (simp only [Act.put,gD,gE,gF]; try rfl)
          refine tkS 1 ?o6 ?v6 ?l6 ?a6 ?hi6 ?hq6 ?hl6 ?hw6 ?hv6 ?ha6 HS0.out ?hh6
          case hi6 => (simp only [gA,gB,gC]; try rfl)
          case hq6 => exact fun _ _ _ h => h
          case hl6 => (simp only [gD,gE,gF]; try rfl)
          case hw6 => rfl
          case hv6 =>
           intro W hW
           go_simp
           try with_reducible rfl
          case ha6 => (simp only [Act.put,gD,gE,gF]; try rfl)
          refine tkS 2 ?o7 ?v7 ?l7 ?a7 ?hi7 ?hq7 ?hl7 ?hw7 ?hv7 ?ha7 HS0.out ?hh7
          case hi7 => (simp only [gA,gB,gC]; try rfl)
          case hq7 => exact fun _ _ _ h => h
          case hl7 => (simp only [gD,gE,gF]; try rfl)
          case hw7 => rfl
          case hv7 =>
           intro W hW
           go_simp
           try with_reducible rfl
          case ha7 => (simp only [Act.put,gD,gE,gF]; try rfl)
          refine tkS 3 ?o8 ?v8 ?l8 ?a8 ?hi8 ?hq8 ?hl8 ?hw8 ?hv8 ?ha8 HS0.out ?hh8
          case hi8 => (simp only [gA,gB,gC]; try rfl)
          case hq8 => exact fun _ _ _ h => h
          case hl8 => (simp only [gD,gE,gF]; try rfl)
          case hw8 => rfl
          case hv8 =>
           intro W hW
           obtain ⟨m8, m9, m10, m1, m2⟩ := HCW.out W hW
           go_simp
           try with_reducible rfl
          case ha8 => (simp only [Act.put,gD,gE,gF]; try rfl)
          refine tkS 4 ?o9 ?v9 ?l9 ?a9 ?hi9 ?hq9 ?hl9 ?hw9 ?hv9 ?ha9 HS0.out ?hh9
          case hi9 => (simp only [gA,gB,gC]; try rfl)
          case hq9 => exact fun _ _ _ h => h
          case hl9 => (simp only [gD,gE,gF]; try rfl)
          case hw9 => rfl
          case hv9 =>
           intro W hW
           go_simp
           try with_reducible rfl
          case ha9 => (simp only [Act.put,gD,gE,gF]; try rfl)
          refine tkS 5 ?o10 ?v10 ?l10 ?a10 ?hi10 ?hq10 ?hl10 ?hw10 ?hv10 ?ha10 HS0.out ?hh10
          case hi10 => (simp only [gA,gB,gC]; try rfl)
          case hq10 => exact fun _ _ _ h => h
          case hl10 => (simp only [gD,gE,gF]; try rfl)
          case hw10 => rfl
          case hv10 =>
           intro W hW
           go_simp
           try with_reducible rfl
          case ha10 => (simp only [Act.put,gD,gE,gF]; try rfl)
          refine tkS 6 ?o11 ?v11 ?l11 ?a11 ?hi11 ?hq11 ?hl11 ?hw11 ?hv11 ?ha11 HS0.out ?hh11
          case hi11 => (simp only [gA,gB,gC]; try rfl)
          case hq11 => exact fun _ _ _ h => h
          case hl11 => (simp only [gD,gE,gF]; try rfl)
          case hw11 => rfl
          case hv11 =>
           intro W hW
           go_simp
           try with_reducible rfl
          case ha11 => (simp only [Act.put,gD,gE,gF]; try rfl)
          refine tkS 7 ?o12 ?v12 ?l12 ?a12 ?hi12 ?hq12 ?hl12 ?hw12 ?hv12 ?ha12 HS0.out ?hh12
          case hi12 => (simp only [gA,gB,gC]; try rfl)
          case hq12 => exact fun _ _ _ h => h
          case hl12 => (simp only [gD,gE,gF]; try rfl)
          case hw12 => rfl
          case hv12 =>
           intro W hW
           go_simp
           try with_reducible rfl
          case ha12 => (simp only [Act.put,gD,gE,gF]; try rfl)
          refine tkS 8 ?o13 ?v13 ?l13 ?a13 ?hi13 ?hq13 ?hl13 ?hw13 ?hv13 ?ha13 HS0.out ?hh13
          case hi13 => (simp only [gA,gB,gC]; try rfl)
          case hq13 => exact fun _ _ _ h => h
          case hl13 => (simp only [gD,gE,gF]; try rfl)
          case hw13 => rfl
          case hv13 =>
           intro W hW
           go_simp
           try with_reducible rfl
          case ha13 => (simp only [Act.put,gD,gE,gF]; try rfl)
          refine tkS 9 ?o14 ?v14 ?l14 ?a14 ?hi14 ?hq14 ?hl14 ?hw14 ?hv14 ?ha14 HS0.out ?hh14
          case hi14 => (simp only [gA,gB,gC]; try rfl)
          case hq14 => exact fun _ _ _ h => h
          case hl14 => (simp only [gD,gE,gF]; try rfl)
          case hw14 => rfl
          case hv14 =>
           intro W hW
           go_simp
           try with_reducible rfl
          case ha14 => (simp only [Act.put,gD,gE,gF]; try rfl)
          refine tkS 10 ?o15 ?v15 ?l15 ?a15 ?hi15 ?hq15 ?hl15 ?hw15 ?hv15 ?ha15 HS0.out ?hh15
          case hi15 => (simp only [gA,gB,gC]; try rfl)
          case hq15 => exact fun _ _ _ h => h
          case hl15 => (simp only [gD,gE,gF]; try rfl)
          case hw15 => rfl
          case hv15 =>
           intro W hW
           obtain ⟨m8, m9, m10, m1, m2⟩ := HCW.out W hW
           go_simp
           try with_reducible rfl
          case ha15 => (simp only [Act.put,gD,gE,gF]; try rfl)
          refine tkS 11 ?o16 ?v16 ?l16 ?a16 ?hi16 ?hq16 ?hl16 ?hw16 ?hv16 ?ha16 HS0.out ?hh16
          case hi16 => (simp only [gA,gB,gC]; try rfl)
          case hq16 => exact fun _ _ _ h => h
          case hl16 => (simp only [gD,gE,gF]; try rfl)
          case hw16 => rfl
          case hv16 =>
           intro W hW
           go_simp
           try with_reducible rfl
          case ha16 => (simp only [Act.put,gD,gE,gF]; try rfl)
          refine tkS 12 ?o17 ?v17 ?l17 ?a17 ?hi17 ?hq17 ?hl17 ?hw17 ?hv17 ?ha17 HS0.out ?hh17
          case hi17 => (simp only [gA,gB,gC]; try rfl)
          case hq17 => exact fun _ _ _ h => h
          case hl17 => (simp only [gD,gE,gF]; try rfl)
          case hw17 => rfl
          case hv17 =>
           intro W hW
           go_simp
           try with_reducible rfl
          case ha17 => (simp only [Act.put,gD,gE,gF]; try rfl)
          refine tkS 13 ?o18 ?v18 ?l18 ?a18 ?hi18 ?hq18 ?hl18 ?hw18 ?hv18 ?ha18 HS0.out ?hh18
          case hi18 => (simp only [gA,gB,gC]; try rfl)
          case hq18 => exact fun _ _ _ h => h
          case hl18 => (simp only [gD,gE,gF]; try rfl)
          case hw18 => rfl
          case hv18 =>
           intro W hW
           obtain ⟨m8, m9, m10, m1, m2⟩ := HCW.out W hW
           go_simp
           try with_reducible rfl
          case ha18 => (simp only [Act.put,gD,gE,gF]; try rfl)
          refine tkS 14 ?o19 ?v19 ?l19 ?a19 ?hi19 ?hq19 ?hl19 ?hw19 ?hv19 ?ha19 HS0.out ?hh19
          case hi19 => (simp only [gA,gB,gC]; try rfl)
          case hq19 => exact fun _ _ _ h => h
          case hl19 => (simp only [gD,gE,gF]; try rfl)
          case hw19 => rfl
          case hv19 =>
           intro W hW
           go_simp
           try with_reducible rfl
          case ha19 => (simp only [Act.put,gD,gE,gF]; try rfl)
          refine tkS 15 ?o20 ?v20 ?l20 ?a20 ?hi20 ?hq20 ?hl20 ?hw20 ?hv20 ?ha20 HS0.out ?hh20
          case hi20 => (simp only [gA,gB,gC]; try rfl)
          case hq20 => exact fun _ _ _ h => h
          case hl20 => (simp only [gD,gE,gF]; try rfl)
          case hw20 => rfl
          case hv20 =>
           intro W hW
           go_simp
           try with_reducible rfl
          case ha20 => (simp only [Act.put,gD,gE,gF]; try rfl)
          refine tkS 16 ?o21 ?v21 ?l21 ?a21 ?hi21 ?hq21 ?hl21 ?hw21 ?hv21 ?ha21 HS0.out ?hh21
          case hi21 => (simp only [gA,gB,gC]; try rfl)
          case hq21 => exact fun _ _ _ h => h
          case hl21 => (simp only [gD,gE,gF]; try rfl)
          case hw21 => rfl
          case hv21 =>
           intro W hW
           go_simp
           try with_reducible rfl
          case ha21 => (simp only [Act.put,gD,gE,gF]; try rfl)
          refine tkS 17 ?o22 ?v22 ?l22 ?a22 ?hi22 ?hq22 ?hl22 ?hw22 ?hv22 ?ha22 HS0.out ?hh22
          case hi22 => (simp only [gA,gB,gC]; try rfl)
          case hq22 => exact fun _ _ _ h => h
          case hl22 => (simp only [gD,gE,gF]; try rfl)
          case hw22 => rfl
          case hv22 =>
           intro W hW
           go_simp
           try with_reducible rfl
          case ha22 => (simp only [Act.put,gD,gE,gF]; try rfl)
          refine tkS 18 ?o23 ?v23 ?l23 ?a23 ?hi23 ?hq23 ?hl23 ?hw23 ?hv23 ?ha23 HS0.out ?hh23
          case hi23 => (simp only [gA,gB,gC]; try rfl)
          case hq23 => exact fun _ _ _ h => h
          case hl23 => (simp only [gD,gE,gF]; try rfl)
          case hw23 => rfl
          case hv23 =>
           intro W hW
           go_simp
           try with_reducible rfl
          case ha23 => (simp only [Act.put,gD,gE,gF]; try rfl)
          refine tkS 19 ?o24 ?v24 ?l24 ?a24 ?hi24 ?hq24 ?hl24 ?hw24 ?hv24 ?ha24 HS0.out ?hh24
          case hi24 => (simp only [gA,gB,gC]; try rfl)
          case hq24 => exact fun _ _ _ h => h
          case hl24 => (simp only [gD,gE,gF]; try rfl)
          case hw24 => rfl
          case hv24 =>
           intro W hW
           go_simp
           try with_reducible rfl
          case ha24 => (simp only [Act.put,gD,gE,gF]; try rfl)
          refine tkS 20 ?o25 ?v25 ?l25 ?a25 ?hi25 ?hq25 ?hl25 ?hw25 ?hv25 ?ha25 HS0.out ?hh25
          case hi25 => (simp only [gA,gB,gC]; try rfl)
          case hq25 => exact fun _ _ _ h => h
          case hl25 => (simp only [gD,gE,gF]; try rfl)
          case hw25 => rfl
          case hv25 =>
           intro W hW
           go_simp
           try with_reducible rfl
          case ha25 => (simp only [Act.put,gD,gE,gF]; try rfl)
          refine tkS 21 ?o26 ?v26 ?l26 ?a26 ?hi26 ?hq26 ?hl26 ?hw26 ?hv26 ?ha26 HS0.out ?hh26
          case hi26 => (simp only [gA,gB,gC]; try rfl)
          case hq26 => exact fun _ _ _ h => h
          case hl26 => (simp only [gD,gE,gF]; try rfl)
          case hw26 => rfl
          case hv26 =>
           intro W hW
           obtain ⟨m8, m9, m10, m1, m2⟩ := HCW.out W hW
           go_simp
           try with_reducible rfl
          case ha26 => (simp only [Act.put,gD,gE,gF]; try rfl)
          refine tkS 22 ?o27 ?v27 ?l27 ?a27 ?hi27 ?hq27 ?hl27 ?hw27 ?hv27 ?ha27 HS0.out ?hh27
          case hi27 => (simp only [gA,gB,gC]; try rfl)
          case hq27 => exact fun _ _ _ h => h
          case hl27 => (simp only [gD,gE,gF]; try rfl)
          case hw27 => rfl
          case hv27 =>
           intro W hW
           go_simp
           try with_reducible rfl
          case ha27 => (simp only [Act.put,gD,gE,gF]; try rfl)
          refine tkS 23 ?o28 ?v28 ?l28 ?a28 ?hi28 ?hq28 ?hl28 ?hw28 ?hv28 ?ha28 HS0.out ?hh28
          case hi28 => (simp only [gA,gB,gC]; try rfl)
          case hq28 => exact fun _ _ _ h => h
          case hl28 => (simp only [gD,gE,gF]; try rfl)
          case hw28 => rfl
          case hv28 =>
           intro W hW
           go_simp
           try with_reducible rfl
          case ha28 => (simp only [Act.put,gD,gE,gF]; try rfl)
          refine tkS 24 ?o29 ?v29 ?l29 ?a29 ?hi29 ?hq29 ?hl29 ?hw29 ?hv29 ?ha29 HS0.out ?hh29
          case hi29 => (simp only [gA,gB,gC]; try rfl)
          case hq29 => exact fun _ _ _ h => h
          case hl29 => (simp only [gD,gE,gF]; try rfl)
          case hw29 => rfl
          case hv29 =>
           intro W hW
           obtain ⟨m8, m9, m10, m1, m2⟩ := HCW.out W hW
           go_simp
           try with_reducible rfl
          case ha29 => (simp only [Act.put,gD,gE,gF]; try rfl)
          have hsm := cSame (HA.out.on HS0.out).vs.1 (HR.out.on HS0.out).1 (Nat.le_trans HZ.out.vl (by decide)) (Nat.le_trans HRL.out (by decide))
          rw [show sameB x.vl cl = true from hs] at hsm
          refine wpAnyH_ready (rs := [25]) (by kernel_rfl) (by simp) ?_
          refine rh_consW (i := 25) (o := ?o30) (listed' := ?l30) ?hi30 ?hl30 ?hg30 ?hh30 ?hs30
          case hi30 => (simp only [gA,gB,gC]; try rfl)
          case hl30 => (simp only [gD,gE,gF]; try rfl)
          case hg30 => rfl
          case hs30 => exact AllReadyH.nil
          intro K hK
          go_simp
          refine hsm.mono ?_
          rintro z w1 ⟨rfl, hb⟩
          have HS1 := hid (HS0.out.trans (hb.mono HS0.out.size))
          clear hb hsm
          refine hK.out _ _ HS1.out ?_
          clear hK K
          refine tkS 26 ?o31 ?v31 ?l31 ?a31 ?hi31 ?hq31 ?hl31 ?hw31 ?hv31 ?ha31 HS1.out ?hh31
          case hi31 => (simp only [gA,gB,gC]; try rfl)
          case hq31 => exact fun _ _ _ h => h
          case hl31 => (simp only [gD,gE,gF]; try rfl)
          case hw31 => rfl
          case hv31 =>
           intro W hW
           go_simp
           try with_reducible rfl
          case ha31 => (simp only [Act.put,gD,gE,gF]; try rfl)
          refine wpAnyH_done (by kernel_rfl) ?_ _
          have HOq := hid (HO0.out.on HS1.out)
          have HLq := hid (HL.out.on HS1.out)
          have HAq := hid (HA.out.on HS1.out)
          have HRq := hid (HR.out.on HS1.out)
          have HB0q : Hid (Below w.heap.size w w1) := hid (HB0.out.trans (HS1.out.mono HB0.out.size))
          have HBq := HS1
          go_wp2_with fail
          go_ret
          exact ActP.still HL0.out HA0.out HB0q.out
       · as_aux_lemma =>
          rw [if_neg (fun h => absurd (show (2 : Int) = 0 from h) (by decide)), if_neg (fun h => absurd (show (2 : Int) = 1 from h) (by decide)), if_pos rfl, if_neg (fun h => hs h.2.2)]
          go_enter Tryz.func71, Tryz.ntmps71
          go_upto_region 7 with fail
          generalize (w.alloc (.cells (carr 2 xt cr) 97)) = W0 at HB0 HO0 HL HA HR HBB c0 ⊢
          refine rh_start (S := fun W => Below W0.heap.size W0 W) (n := 27) (listed := #[false, false, false, false, false, false, false, false, false, false, false, false, false, false, false, false, false, false, false, false, false, false, false, false, false, false, false]) (by kernel_rfl) rfl rfl ?_
          have HS0 : Hid (Below W0.heap.size W0 W0.drew) := hid (belowDrew (Below.refl _ W0))
          have HCW : Hid (∀ W, Below W0.heap.size W0 W → W.cell? ⟨p, 8, none⟩ = some (.int .i64 3) ∧ W.cell? ⟨p, 9, none⟩ = some (.int .i64 xt) ∧ W.cell? ⟨p, 10, none⟩ = some (.slice x.vp.a x.vp.n x.vp.c) ∧ W.cell? ⟨w.heap.size, 1, none⟩ = some (.int .i64 xt) ∧ W.cell? ⟨w.heap.size, 2, none⟩ = some (.slice cr.a cr.n cr.c)) := hid (fun W hW => ⟨by rw [HPH.out]; exact (HA.out.on hW).cells.2.1, by rw [HXT.out]; exact (HA.out.on hW).cells.2.2.1, (HA.out.on hW).cells.2.2.2.1, (HO0.out.on hW).cells.2⟩)
          generalize W0.drew = wd at HS0 ⊢
          refine tkS 0 ?o32 ?v32 ?l32 ?a32 ?hi32 ?hq32 ?hl32 ?hw32 ?hv32 ?ha32 HS0.out ?hh32
          case hi32 => (simp only [List.getElem?_toArray, List.getElem?_cons_zero]; try rfl)
          case hq32 => exact fun _ _ _ h => h
          case hl32 => (simp only [List.setIfInBounds_toArray, List.set_cons_zero]; try rfl)
          case hw32 => rfl
          case hv32 =>
           intro W hW
           go_simp
           try with_reducible rfl
          case ha32 => (simp only [Act.put,gD,gE,gF]; try rfl)
          refine tkS 1 ?o33 ?v33 ?l33 ?a33 ?hi33 ?hq33 ?hl33 ?hw33 ?hv33 ?ha33 HS0.out ?hh33
          case hi33 => (simp only [gA,gB,gC]; try rfl)
          case hq33 => exact fun _ _ _ h => h
          case hl33 => (simp only [gD,gE,gF]; try rfl)
          case hw33 => rfl
          case hv33 =>
           intro W hW
           go_simp
           try with_reducible rfl
          case ha33 => (simp only [Act.put,gD,gE,gF]; try rfl)
          refine tkS 2 ?o34 ?v34 ?l34 ?a34 ?hi34 ?hq34 ?hl34 ?hw34 ?hv34 ?ha34 HS0.out ?hh34
          case hi34 => (simp only [gA,gB,gC]; try rfl)
          case hq34 => exact fun _ _ _ h => h
          case hl34 => (simp only [gD,gE,gF]; try rfl)
          case hw34 => rfl
          case hv34 =>
           intro W hW
           go_simp
           try with_reducible rfl
          case ha34 => (simp only [Act.put,gD,gE,gF]; try rfl)
          refine tkS 3 ?o35 ?v35 ?l35 ?a35 ?hi35 ?hq35 ?hl35 ?hw35 ?hv35 ?ha35 HS0.out ?hh35
          case hi35 => (simp only [gA,gB,gC]; try rfl)
          case hq35 => exact fun _ _ _ h => h
          case hl35 => (simp only [gD,gE,gF]; try rfl)
          case hw35 => rfl
          case hv35 =>
           intro W hW
           obtain ⟨m8, m9, m10, m1, m2⟩ := HCW.out W hW
           go_simp
           try with_reducible rfl
          case ha35 => (simp only [Act.put,gD,gE,gF]; try rfl)
          refine tkS 4 ?o36 ?v36 ?l36 ?a36 ?hi36 ?hq36 ?hl36 ?hw36 ?hv36 ?ha36 HS0.out ?hh36
          case hi36 => (simp only [gA,gB,gC]; try rfl)
          case hq36 => exact fun _ _ _ h => h
          case hl36 => (simp only [gD,gE,gF]; try rfl)
          case hw36 => rfl
          case hv36 =>
           intro W hW
           go_simp
           try with_reducible rfl
          case ha36 => (simp only [Act.put,gD,gE,gF]; try rfl)
          refine tkS 5 ?o37 ?v37 ?l37 ?a37 ?hi37 ?hq37 ?hl37 ?hw37 ?hv37 ?ha37 HS0.out ?hh37
          case hi37 => (simp only [gA,gB,gC]; try rfl)
          case hq37 => exact fun _ _ _ h => h
          case hl37 => (simp only [gD,gE,gF]; try rfl)
          case hw37 => rfl
          case hv37 =>
           intro W hW
           go_simp
           try with_reducible rfl
          case ha37 => (simp only [Act.put,gD,gE,gF]; try rfl)
          refine tkS 6 ?o38 ?v38 ?l38 ?a38 ?hi38 ?hq38 ?hl38 ?hw38 ?hv38 ?ha38 HS0.out ?hh38
          case hi38 => (simp only [gA,gB,gC]; try rfl)
          case hq38 => exact fun _ _ _ h => h
          case hl38 => (simp only [gD,gE,gF]; try rfl)
          case hw38 => rfl
          case hv38 =>
           intro W hW
           go_simp
           try with_reducible rfl
          case ha38 => (simp only [Act.put,gD,gE,gF]; try rfl)
          refine tkS 7 ?o39 ?v39 ?l39 ?a39 ?hi39 ?hq39 ?hl39 ?hw39 ?hv39 ?ha39 HS0.out ?hh39
          case hi39 => (simp only [gA,gB,gC]; try rfl)
          case hq39 => exact fun _ _ _ h => h
          case hl39 => (simp only [gD,gE,gF]; try rfl)
          case hw39 => rfl
          case hv39 =>
           intro W hW
           go_simp
           try with_reducible rfl
          case ha39 => (simp only [Act.put,gD,gE,gF]; try rfl)
          refine tkS 8 ?o40 ?v40 ?l40 ?a40 ?hi40 ?hq40 ?hl40 ?hw40 ?hv40 ?ha40 HS0.out ?hh40
          case hi40 => (simp only [gA,gB,gC]; try rfl)
          case hq40 => exact fun _ _ _ h => h
          case hl40 => (simp only [gD,gE,gF]; try rfl)
          case hw40 => rfl
          case hv40 =>
           intro W hW
           go_simp
           try with_reducible rfl
          case ha40 => (simp only [Act.put,gD,gE,gF]; try rfl)
          refine tkS 9 ?o41 ?v41 ?l41 ?a41 ?hi41 ?hq41 ?hl41 ?hw41 ?hv41 ?ha41 HS0.out ?hh41
          case hi41 => (simp only [gA,gB,gC]; try rfl)
          case hq41 => exact fun _ _ _ h => h
          case hl41 => (simp only [gD,gE,gF]; try rfl)
          case hw41 => rfl
          case hv41 =>
           intro W hW
           go_simp
           try with_reducible rfl
          case ha41 => (simp only [Act.put,gD,gE,gF]; try rfl)
          refine tkS 10 ?o42 ?v42 ?l42 ?a42 ?hi42 ?hq42 ?hl42 ?hw42 ?hv42 ?ha42 HS0.out ?hh42
          case hi42 => (simp only [gA,gB,gC]; try rfl)
          case hq42 => exact fun _ _ _ h => h
          case hl42 => (simp only [gD,gE,gF]; try rfl)
          case hw42 => rfl
          case hv42 =>
           intro W hW
           obtain ⟨m8, m9, m10, m1, m2⟩ := HCW.out W hW
           go_simp
           try with_reducible rfl
          case ha42 => (simp only [Act.put,gD,gE,gF]; try rfl)
          refine tkS 11 ?o43 ?v43 ?l43 ?a43 ?hi43 ?hq43 ?hl43 ?hw43 ?hv43 ?ha43 HS0.out ?hh43
          case hi43 => (simp only [gA,gB,gC]; try rfl)
          case hq43 => exact fun _ _ _ h => h
          case hl43 => (simp only [gD,gE,gF]; try rfl)
          case hw43 => rfl
          case hv43 =>
           intro W hW
           go_simp
           try with_reducible rfl
          case ha43 => (simp only [Act.put,gD,gE,gF]; try rfl)
          refine tkS 12 ?o44 ?v44 ?l44 ?a44 ?hi44 ?hq44 ?hl44 ?hw44 ?hv44 ?ha44 HS0.out ?hh44
          case hi44 => (simp only [gA,gB,gC]; try rfl)
          case hq44 => exact fun _ _ _ h => h
          case hl44 => (simp only [gD,gE,gF]; try rfl)
          case hw44 => rfl
          case hv44 =>
           intro W hW
           go_simp
           try with_reducible rfl
          case ha44 => (simp only [Act.put,gD,gE,gF]; try rfl)
          refine tkS 13 ?o45 ?v45 ?l45 ?a45 ?hi45 ?hq45 ?hl45 ?hw45 ?hv45 ?ha45 HS0.out ?hh45
          case hi45 => (simp only [gA,gB,gC]; try rfl)
          case hq45 => exact fun _ _ _ h => h
          case hl45 => (simp only [gD,gE,gF]; try rfl)
          case hw45 => rfl
          case hv45 =>
           intro W hW
           obtain ⟨m8, m9, m10, m1, m2⟩ := HCW.out W hW
           go_simp
           try with_reducible rfl
          case ha45 => (simp only [Act.put,gD,gE,gF]; try rfl)
          refine tkS 14 ?o46 ?v46 ?l46 ?a46 ?hi46 ?hq46 ?hl46 ?hw46 ?hv46 ?ha46 HS0.out ?hh46
          case hi46 => (simp only [gA,gB,gC]; try rfl)
          case hq46 => exact fun _ _ _ h => h
          case hl46 => (simp only [gD,gE,gF]; try rfl)
          case hw46 => rfl
          case hv46 =>
           intro W hW
           go_simp
           try with_reducible rfl
          case ha46 => (simp only [Act.put,gD,gE,gF]; try rfl)
          refine tkS 15 ?o47 ?v47 ?l47 ?a47 ?hi47 ?hq47 ?hl47 ?hw47 ?hv47 ?ha47 HS0.out ?hh47
          case hi47 => (simp only [gA,gB,gC]; try rfl)
          case hq47 => exact fun _ _ _ h => h
          case hl47 => (simp only [gD,gE,gF]; try rfl)
          case hw47 => rfl
          case hv47 =>
           intro W hW
           go_simp
           try with_reducible rfl
          case ha47 => (simp only [Act.put,gD,gE,gF]; try rfl)
          refine tkS 16 ?o48 ?v48 ?l48 ?a48 ?hi48 ?hq48 ?hl48 ?hw48 ?hv48 ?ha48 HS0.out ?hh48
          case hi48 => (simp only [gA,gB,gC]; try rfl)
          case hq48 => exact fun _ _ _ h => h
          case hl48 => (simp only [gD,gE,gF]; try rfl)
          case hw48 => rfl
          case hv48 =>
           intro W hW
           go_simp
           try with_reducible rfl
          case ha48 => (simp only [Act.put,gD,gE,gF]; try rfl)
          refine tkS 17 ?o49 ?v49 ?l49 ?a49 ?hi49 ?hq49 ?hl49 ?hw49 ?hv49 ?ha49 HS0.out ?hh49
          case hi49 => (simp only [gA,gB,gC]; try rfl)
          case hq49 => exact fun _ _ _ h => h
          case hl49 => (simp only [gD,gE,gF]; try rfl)
          case hw49 => rfl
          case hv49 =>
           intro W hW
           go_simp
           try with_reducible rfl
          case ha49 => (simp only [Act.put,gD,gE,gF]; try rfl)
          refine tkS 18 ?o50 ?v50 ?l50 ?a50 ?hi50 ?hq50 ?hl50 ?hw50 ?hv50 ?ha50 HS0.out ?hh50
          case hi50 => (simp only [gA,gB,gC]; try rfl)
          case hq50 => exact fun _ _ _ h => h
          case hl50 => (simp only [gD,gE,gF]; try rfl)
          case hw50 => rfl
          case hv50 =>
           intro W hW
           go_simp
           try with_reducible rfl
          case ha50 => (simp only [Act.put,gD,gE,gF]; try rfl)
          refine tkS 19 ?o51 ?v51 ?l51 ?a51 ?hi51 ?hq51 ?hl51 ?hw51 ?hv51 ?ha51 HS0.out ?hh51
          case hi51 => (simp only [gA,gB,gC]; try rfl)
          case hq51 => exact fun _ _ _ h => h
          case hl51 => (simp only [gD,gE,gF]; try rfl)
          case hw51 => rfl
          case hv51 =>
           intro W hW
           go_simp
           try with_reducible rfl
          case ha51 => (simp only [Act.put,gD,gE,gF]; try rfl)
          refine tkS 20 ?o52 ?v52 ?l52 ?a52 ?hi52 ?hq52 ?hl52 ?hw52 ?hv52 ?ha52 HS0.out ?hh52
          case hi52 => (simp only [gA,gB,gC]; try rfl)
          case hq52 => exact fun _ _ _ h => h
          case hl52 => (simp only [gD,gE,gF]; try rfl)
          case hw52 => rfl
          case hv52 =>
           intro W hW
           go_simp
           try with_reducible rfl
          case ha52 => (simp only [Act.put,gD,gE,gF]; try rfl)
          refine tkS 21 ?o53 ?v53 ?l53 ?a53 ?hi53 ?hq53 ?hl53 ?hw53 ?hv53 ?ha53 HS0.out ?hh53
          case hi53 => (simp only [gA,gB,gC]; try rfl)
          case hq53 => exact fun _ _ _ h => h
          case hl53 => (simp only [gD,gE,gF]; try rfl)
          case hw53 => rfl
          case hv53 =>
           intro W hW
           obtain ⟨m8, m9, m10, m1, m2⟩ := HCW.out W hW
           go_simp
           try with_reducible rfl
          case ha53 => (simp only [Act.put,gD,gE,gF]; try rfl)
          refine tkS 22 ?o54 ?v54 ?l54 ?a54 ?hi54 ?hq54 ?hl54 ?hw54 ?hv54 ?ha54 HS0.out ?hh54
          case hi54 => (simp only [gA,gB,gC]; try rfl)
          case hq54 => exact fun _ _ _ h => h
          case hl54 => (simp only [gD,gE,gF]; try rfl)
          case hw54 => rfl
          case hv54 =>
           intro W hW
           go_simp
           try with_reducible rfl
          case ha54 => (simp only [Act.put,gD,gE,gF]; try rfl)
          refine tkS 23 ?o55 ?v55 ?l55 ?a55 ?hi55 ?hq55 ?hl55 ?hw55 ?hv55 ?ha55 HS0.out ?hh55
          case hi55 => (simp only [gA,gB,gC]; try rfl)
          case hq55 => exact fun _ _ _ h => h
          case hl55 => (simp only [gD,gE,gF]; try rfl)
          case hw55 => rfl
          case hv55 =>
           intro W hW
           go_simp
           try with_reducible rfl
          case ha55 => (simp only [Act.put,gD,gE,gF]; try rfl)
          refine tkS 24 ?o56 ?v56 ?l56 ?a56 ?hi56 ?hq56 ?hl56 ?hw56 ?hv56 ?ha56 HS0.out ?hh56
          case hi56 => (simp only [gA,gB,gC]; try rfl)
          case hq56 => exact fun _ _ _ h => h
          case hl56 => (simp only [gD,gE,gF]; try rfl)
          case hw56 => rfl
          case hv56 =>
           intro W hW
           obtain ⟨m8, m9, m10, m1, m2⟩ := HCW.out W hW
           go_simp
           try with_reducible rfl
          case ha56 => (simp only [Act.put,gD,gE,gF]; try rfl)
          have hsm := cSame (HA.out.on HS0.out).vs.1 (HR.out.on HS0.out).1 (Nat.le_trans HZ.out.vl (by decide)) (Nat.le_trans HRL.out (by decide))
          rw [show sameB x.vl cl = false from (Bool.eq_false_iff.2 hs)] at hsm
          refine wpAnyH_ready (rs := [25]) (by kernel_rfl) (by simp) ?_
          refine rh_consW (i := 25) (o := ?o57) (listed' := ?l57) ?hi57 ?hl57 ?hg57 ?hh57 ?hs57
          case hi57 => (simp only [gA,gB,gC]; try rfl)
          case hl57 => (simp only [gD,gE,gF]; try rfl)
          case hg57 => rfl
          case hs57 => exact AllReadyH.nil
          intro K hK
          go_simp
          refine hsm.mono ?_
          rintro z w1 ⟨rfl, hb⟩
          have HS1 := hid (HS0.out.trans (hb.mono HS0.out.size))
          clear hb hsm
          refine hK.out _ _ HS1.out ?_
          clear hK K
          refine tkS 26 ?o58 ?v58 ?l58 ?a58 ?hi58 ?hq58 ?hl58 ?hw58 ?hv58 ?ha58 HS1.out ?hh58
          case hi58 => (simp only [gA,gB,gC]; try rfl)
          case hq58 => exact fun _ _ _ h => h
          case hl58 => (simp only [gD,gE,gF]; try rfl)
          case hw58 => rfl
          case hv58 =>
           intro W hW
           go_simp
           try with_reducible rfl
          case ha58 => (simp only [Act.put,gD,gE,gF]; try rfl)
          refine wpAnyH_done (by kernel_rfl) ?_ _
          have HOq := hid (HO0.out.on HS1.out)
          have HLq := hid (HL.out.on HS1.out)
          have HAq := hid (HA.out.on HS1.out)
          have HRq := hid (HR.out.on HS1.out)
          have HB0q : Hid (Below w.heap.size w w1) := hid (HB0.out.trans (HS1.out.mono HB0.out.size))
          have HBq := HS1
          have hca := cPropose HLq.out HAq.out HNN.out (Nat.le_trans HBB.out HBq.out.size) (by have := HZ.out.len; omega) (vt := xt) true HRq.out HRL.out
          go_wp2_with (first
           | ((with_reducible refine loadVl (x := ?vx59) (b := w.heap.size) (o := 1) xt cr ?vg59 ?vo59 ?vxx59 ?vc59 ?_); (case vg59 => rfl); (case vo59 => rfl); (case vxx59 => rfl); (case vc59 => exact HOq.out.vR))
           | (go_at_call 104; refine hca.mono ?_; intro e w6 h2; have H2 := hid h2; obtain ⟨v, ls, rfl, h3⟩ := h2; have H3 := hid h3; clear h3 hca)
           | fail)
          go_ret
          exact ActP.from (x := x) H2.out (Tch.ofBelow HB0q.out) rfl (fun k hk => .inl hk)
     · as_aux_lemma =>
        rw [if_neg (fun h => absurd (show (2 : Int) = 0 from h) (by decide)), if_neg (fun h => absurd (show (2 : Int) = 1 from h) (by decide)), if_pos rfl, if_neg (fun h => h4 h.2.1)]
        go_enter Tryz.func71, Tryz.ntmps71
        go_upto_region 7 with fail
        generalize (w.alloc (.cells (carr 2 ct cr) 97)) = W0 at HB0 HO0 HL HA HR HBB c0 ⊢
        obtain ⟨c0', c1, c2⟩ := HO0.out.cells
        have e8 : W0.cell? ⟨p, 8, none⟩ = some (.int .i64 3) := (by rw [HPH.out]; exact HA.out.cells.2.1)
        have e9 : W0.cell? ⟨p, 9, none⟩ = some (.int .i64 xt) := (by rw [HXT.out]; exact HA.out.cells.2.2.1)
        have hb4 : (xt == ct) = false := by simpa using h4
        go_quiet (fail)
        rename_i nq
        have HBq : Hid (Below W0.heap.size W0 (W0.drewN nq)) := hid (Below.drewL (Below.refl _ W0) nq)
        have HOq : Hid (OC (W0.drewN nq) w.heap.size 2 ct cr) := hid HO0.out
        have HLq := hid (HL.out.on HBq.out)
        have HAq := hid (HA.out.on HBq.out)
        have HRq := hid (HR.out.on HBq.out)
        have HB0q : Hid (Below w.heap.size w (W0.drewN nq)) := hid (HB0.out.trans (HBq.out.mono HB0.out.size))
        generalize W0.drewN nq = W0q at HBq HOq HLq HAq HRq HB0q ⊢
        have hca := cPropose HLq.out HAq.out HNN.out (Nat.le_trans HBB.out HBq.out.size) (by have := HZ.out.len; omega) (vt := ct) true HRq.out HRL.out
        go_wp2_with (first
         | ((with_reducible refine loadVl (x := ?vx4) (b := w.heap.size) (o := 1) ct cr ?vg4 ?vo4 ?vxx4 ?vc4 ?_); (case vg4 => rfl); (case vo4 => rfl); (case vxx4 => rfl); (case vc4 => exact HOq.out.vR))
         | (go_at_call 104; refine hca.mono ?_; intro e w6 h2; have H2 := hid h2; obtain ⟨v, ls, rfl, h3⟩ := h2; have H3 := hid h3; clear h3 hca)
         | fail)
        go_ret
        exact ActP.from (x := x) H2.out (Tch.ofBelow HB0q.out) rfl (fun k hk => .inl hk)
   · as_aux_lemma =>
      rw [if_neg (fun h => absurd (show (2 : Int) = 0 from h) (by decide)), if_neg (fun h => absurd (show (2 : Int) = 1 from h) (by decide)), if_pos rfl, if_neg (fun h => h3 h.1)]
      go_enter Tryz.func71, Tryz.ntmps71
      go_upto_region 7 with fail
      generalize (w.alloc (.cells (carr 2 ct cr) 97)) = W0 at HB0 HO0 HL HA HR HBB c0 ⊢
      obtain ⟨c0', c1, c2⟩ := HO0.out.cells
      have e8 : W0.cell? ⟨p, 8, none⟩ = some (.int .i64 ph) := (by rw [HPH.out]; exact HA.out.cells.2.1)
      have e9 : W0.cell? ⟨p, 9, none⟩ = some (.int .i64 xt) := (by rw [HXT.out]; exact HA.out.cells.2.2.1)
      have hb3 : (ph == 3) = false := by simpa using h3
      go_quiet (fail)
      rename_i nq
      have HBq : Hid (Below W0.heap.size W0 (W0.drewN nq)) := hid (Below.drewL (Below.refl _ W0) nq)
      have HOq : Hid (OC (W0.drewN nq) w.heap.size 2 ct cr) := hid HO0.out
      have HLq := hid (HL.out.on HBq.out)
      have HAq := hid (HA.out.on HBq.out)
      have HRq := hid (HR.out.on HBq.out)
      have HB0q : Hid (Below w.heap.size w (W0.drewN nq)) := hid (HB0.out.trans (HBq.out.mono HB0.out.size))
      generalize W0.drewN nq = W0q at HBq HOq HLq HAq HRq HB0q ⊢
      have hca := cPropose HLq.out HAq.out HNN.out (Nat.le_trans HBB.out HBq.out.size) (by have := HZ.out.len; omega) (vt := ct) true HRq.out HRL.out
      go_wp2_with (first
       | ((with_reducible refine loadVl (x := ?vx3) (b := w.heap.size) (o := 1) ct cr ?vg3 ?vo3 ?vxx3 ?vc3 ?_); (case vg3 => rfl); (case vo3 => rfl); (case vxx3 => rfl); (case vc3 => exact HOq.out.vR))
       | (go_at_call 104; refine hca.mono ?_; intro e w6 h2; have H2 := hid h2; obtain ⟨v, ls, rfl, h3⟩ := h2; have H3 := hid h3; clear h3 hca)
       | fail)
      go_ret
      exact ActP.from (x := x) H2.out (Tch.ofBelow HB0q.out) rfl (fun k hk => .inl hk)
 · as_aux_lemma =>
    subst hk0
    rw [if_neg (fun h => absurd (show (3 : Int) = 0 from h) (by decide)), if_neg (fun h => absurd (show (3 : Int) = 1 from h) (by decide)), if_neg (fun h => absurd (show (3 : Int) = 2 from h) (by decide))]
    go_enter Tryz.func71, Tryz.ntmps71
    have hca := cPropose HL.out HA.out HNN.out HBB.out (by have := HZ.out.len; omega) (vt := ct) false HR.out HRL.out
    go_wp2_with (first
     | ((with_reducible refine loadVl (x := ?vx60) (b := w.heap.size) (o := 1) ct cr ?vg60 ?vo60 ?vxx60 ?vc60 ?_); (case vg60 => rfl); (case vo60 => rfl); (case vxx60 => rfl); (case vc60 => exact HO0.out.vR))
     | (go_at_call 104; refine hca.mono ?_; intro e w6 h2; have H2 := hid h2; obtain ⟨v, ls, rfl, h3⟩ := h2; have H3 := hid h3; clear h3 hca)
     | fail)
    go_ret
    exact ActP.from (x := x) H2.out (Tch.ofBelow HB0.out) rfl (fun k hk => .inl hk)
set_option maxHeartbeats 8000000 in
set_option maxRecDepth 100000 in
theorem cPromise {w : World} {B q b n p : Nat} {nd N : Int} {f : Int → Option Nat} {x : Ax} (hL : Lq w B q b n nd N f) (hA : Ap w B p x) (hN : 3 ≤ N ∧ N ≤ 9) (hB : B ≤ w.heap.size) (hz : Sz 37 x) {m : Ms} (hm : m.at w) (hms : m.short 1024) : Calls Tryz.prog 32 #[ptr q, ptr p, .agg m.m.arr] w (ActP w B q b n nd N f p x (promiseF nd N x.att m.an)) := by
 have HL0 := hid hL
 have HA0 := hid hA
 have HB0 : Hid (Below w.heap.size w (w.alloc (.cells m.m.arr 48))) := hid (laid1_b w _)
 have HX0 : Hid (OM (w.alloc (.cells m.m.arr 48)) w.heap.size m.m) := hid (laid1_0 w _)
 have HL := hid (hL.on HB0.out)
 have HA := hid (hA.on HB0.out)
 have HM := hid (hm.on HB0.out)
 have HMS := hid hms
 have HZ := hid hz
 have HNN := hid hN
 have HBB := hid (Nat.le_trans hB HB0.out.size)
 clear hL hA hz hm hms hB
 unfold promiseF
 obtain ⟨ph, hph⟩ : ∃ z, z = x.ph := ⟨_, rfl⟩
 have HPH := hid hph
 obtain ⟨ex, hex⟩ : ∃ z, z = x.ex := ⟨_, rfl⟩
 have HEX := hid hex
 rw [show x.att.ph = ph from hph.symm, show x.att.ex = ex from hex.symm]
 clear hph hex
 obtain ⟨cl, hcl⟩ : ∃ z, z = clI N := ⟨_, rfl⟩
 have hC := fun W => sClassic_any N W
 rw [← hcl] at hC ⊢
 clear hcl
 obtain ⟨pl, hpl⟩ : ∃ z, z = (proL (x.att.add m.an)).length := ⟨_, rfl⟩
 have HPL := hid hpl
 rw [← hpl]
 clear hpl
 obtain ⟨ch, hch⟩ : ∃ z, z = choA N (proL (x.att.add m.an)) := ⟨_, rfl⟩
 have HCH := hid hch
 rw [← hch]
 clear hch
 have e8 : (w.alloc (.cells m.m.arr 48)).cell? ⟨p, 8, none⟩ = some (.int .i64 ph) := (by rw [HPH.out]; exact HA.out.cells.2.1)
 have e11 : (w.alloc (.cells m.m.arr 48)).cell? ⟨p, 11, none⟩ = some (.bool ex) := (by rw [HEX.out]; exact HA.out.cells.2.2.2.2.1)
 by_cases h1 : ph = 2
 · subst h1
   have hno : ¬ ((2 : Int) ≠ 2 ∧ ¬ ((2 : Int) = 3 ∧ ex = true)) := fun h => h.1 rfl
   by_cases h2 : (pl : Int) < cl
   · as_aux_lemma =>
      rw [if_neg hno, if_pos h2]
      go_enter Tryz.func32, Tryz.ntmps32
      have hgb : ((pl : Int) < cl) := h2
      go_wp2_with (first
       | ((with_reducible refine loadM (x := ?lx61) (b := w.heap.size) (m.m) ?lg61 ?lo61 ?lxx61 ?lc61 ?lh61); (case lg61 => rfl); (case lo61 => rfl); (case lxx61 => rfl); (case lc61 => exact HX0.out))
       | (go_at_call 67; refine (cKeepA HA.out HBB.out (by have := HZ.out.len; omega) HM.out HMS.out).mono ?_; rintro e w1 ⟨rfl, x', hatt, hc, hap, htc, hfr, hrs, hvl⟩; have HAT := hid hatt; have HC := hid hc; have HA1 := hid hap; have HT1 := hid htc; have HFR := hid hfr; have HZ1 := hid (HZ.out.add hc hrs hvl HMS.out); have HVL := hid hvl; have HL1 := hid (HL.out.tch htc (HL.out.qa HA.out).1 (HL.out.qa HA.out).2); have HB1 : Hid (B ≤ w1.heap.size) := hid (Nat.le_trans HBB.out htc.size); have hsd := cSaid (cap := 1) (hap.on (laid1_b w1 (.cells #[.int .i64 4] 46))) (by have := HZ1.out.len; omega) (sor1 w1 4) (by simp) (by decide); clear hatt hc hap htc hfr hrs hvl)
       | (go_at_call 56; refine hsd.mono ?_; rintro e w2 ⟨v0, rfl, ho, hb⟩; obtain ⟨ra, rc, rn, rfl, hrn⟩ := OwnG.asSlice ho; have HSE : Hid (proL (x.att.add m.an) = (saidM [4] x'.rs).map Ms.an) := hid (by rw [← HAT.out, proL_an]); obtain rfl : rn = pl := (by rw [hrn, HPL.out, HSE.out]; unfold mgs; rw [List.length_map, List.length_map]); clear hrn; have HB2 : Hid (Below w1.heap.size w1 w2) := hid ((laid1_b w1 (.cells #[.int .i64 4] 46)).trans (hb.mono (by simp))); have HL2 := hid (HL1.out.on HB2.out); have HA2 := hid (HA1.out.on HB2.out); have HO2 := hid (OwnG.slG kM ho); obtain ⟨k0, k1, k2⟩ := HL2.out.cells; have hpl38 : rn ≤ 38 := (by have h1 := saidM_len [4] x'.rs; have h2 := HZ1.out.len; have h3 := HPL.out; rw [HSE.out, List.length_map] at h3; omega); clear ho hb hsd)
       | (go_at_call 26; refine (hC _).mono ?_; rintro e w' ⟨rfl, rfl⟩)
       | fail)
      go_ret
      refine ActP.from (x := x) (ActP.still HL1.out HA1.out HB2.out : ActP w1 B q b n nd N f p x' _ _ w2) ((Tch.ofBelow HB0.out).trans (HT1.out.mono fun k e => .inr e)) HC.out (fun k hk => (HFR.out k hk).imp id (fun h => Nat.le_trans HB0.out.size h)) |> fun h => ?_
      rw [HAT.out] at h
      exact h
   · by_cases h5 : ch.e = 0
     · as_aux_lemma =>
        rw [if_neg hno, if_neg h2, if_pos h5]
        go_enter Tryz.func32, Tryz.ntmps32
        have hgb : ¬ ((pl : Int) < cl) := h2
        have hzb : (ch.e != 0) = false := by simp [h5]
        go_wp2_with (first
         | ((with_reducible refine loadM (x := ?lx64) (b := w.heap.size) (m.m) ?lg64 ?lo64 ?lxx64 ?lc64 ?lh64); (case lg64 => rfl); (case lo64 => rfl); (case lxx64 => rfl); (case lc64 => exact HX0.out))
         | (go_at_call 67; refine (cKeepA HA.out HBB.out (by have := HZ.out.len; omega) HM.out HMS.out).mono ?_; rintro e w1 ⟨rfl, x', hatt, hc, hap, htc, hfr, hrs, hvl⟩; have HAT := hid hatt; have HC := hid hc; have HA1 := hid hap; have HT1 := hid htc; have HFR := hid hfr; have HZ1 := hid (HZ.out.add hc hrs hvl HMS.out); have HVL := hid hvl; have HL1 := hid (HL.out.tch htc (HL.out.qa HA.out).1 (HL.out.qa HA.out).2); have HB1 : Hid (B ≤ w1.heap.size) := hid (Nat.le_trans HBB.out htc.size); have hsd := cSaid (cap := 1) (hap.on (laid1_b w1 (.cells #[.int .i64 4] 46))) (by have := HZ1.out.len; omega) (sor1 w1 4) (by simp) (by decide); clear hatt hc hap htc hfr hrs hvl)
         | (go_at_call 56; refine hsd.mono ?_; rintro e w2 ⟨v0, rfl, ho, hb⟩; obtain ⟨ra, rc, rn, rfl, hrn⟩ := OwnG.asSlice ho; have HSE : Hid (proL (x.att.add m.an) = (saidM [4] x'.rs).map Ms.an) := hid (by rw [← HAT.out, proL_an]); obtain rfl : rn = pl := (by rw [hrn, HPL.out, HSE.out]; unfold mgs; rw [List.length_map, List.length_map]); clear hrn; have HB2 : Hid (Below w1.heap.size w1 w2) := hid ((laid1_b w1 (.cells #[.int .i64 4] 46)).trans (hb.mono (by simp))); have HL2 := hid (HL1.out.on HB2.out); have HA2 := hid (HA1.out.on HB2.out); have HO2 := hid (OwnG.slG kM ho); obtain ⟨k0, k1, k2⟩ := HL2.out.cells; have hpl38 : rn ≤ 38 := (by have h1 := saidM_len [4] x'.rs; have h2 := HZ1.out.len; have h3 := HPL.out; rw [HSE.out, List.length_map] at h3; omega); have hch := cChoose N HO2.out (fun y hy => ((HA2.out.rs y (saidM_mem hy)).at)) (fun y hy => HZ1.out.sh y (saidM_mem hy)) (by have h1 := saidM_len [4] x'.rs; have h2 := HZ1.out.len; omega); have HCE : Hid (choF N (saidM [4] x'.rs) = ch) := hid (by rw [HCH.out, HSE.out, choA_an]); clear ho hb hsd)
         | (go_at_call 26; refine (hC _).mono ?_; rintro e w' ⟨rfl, rfl⟩)
         | (go_at_call 70; refine hch.mono ?_; rintro e w3 ⟨⟨ga, gn, gc⟩, rfl, hs, hb⟩; rw [HCE.out] at hs ⊢; have HS3 := hid hs; have HB3 : Hid (Below w1.heap.size w1 w3) := hid (HB2.out.trans (hb.mono HB2.out.size)); clear hs hb hch)
         | ((with_reducible refine storeCh (x := ?cx62) (y := ?cy62) (b := w3.heap.size) ch.k ch.t ⟨ga, gn, gc⟩ ?cg62 ?co62 ?cxx62 ?cyy62 ?cc62 ?ch62); (case cg62 => rfl); (case co62 => rfl); (case cxx62 => rfl); (case cyy62 => rfl); (case cc62 => exact roomCZ w3); intro w4 hO hU; have HO4 : Hid (OC w4 w3.heap.size ch.k ch.t ⟨ga, gn, gc⟩) := hid hO; have HB34 : Hid (Below w3.heap.size w3 w4) := hid ((laid1_b w3 zeroCc).trans (hU.below w3.heap.size (Nat.le_refl _))); have HB4 : Hid (Below w1.heap.size w1 w4) := hid (HB3.out.trans (HB34.out.mono HB3.out.size)); have HS4 := hid (HS3.out.on HB34.out); have HL4 := hid (HL1.out.on HB4.out); have HA4 := hid (HA1.out.on HB4.out); have hca := cGoOn HL4.out HA4.out HNN.out (Nat.le_trans HB1.out HB4.out.size) HZ1.out (ck := ch.k) (ct := ch.t) (cr := ⟨ga, gn, gc⟩) (cl := ch.l) (e0 := ch.e) (by rw [← HCE.out]; exact choF_k) HS4.out.setC (by rw [← HCE.out]; exact choF_len (fun y hy => HZ1.out.sh y (saidM_mem hy))); clear hO hU)
         | ((with_reducible refine loadCl (x := ?lcx63) (b := w3.heap.size) ch.k ch.t ⟨ga, gn, gc⟩ ?lcg63 ?lco63 ?lcxx63 ?lcc63 ?_); (case lcg63 => rfl); (case lco63 => rfl); (case lcxx63 => rfl); (case lcc63 => exact HO4.out.range))
         | (go_at_call 71; refine hca.mono ?_; intro e w6 h2; have H2 := hid h2; obtain ⟨v, ls, rfl, h3⟩ := h2; have H3 := hid h3; clear h3 hca)
         | fail)
        go_ret
        have h9 := ActP.from (x := x) H2.out (((Tch.ofBelow HB0.out).trans (HT1.out.mono fun k e => .inr e)).trans (Tch.ofBelow HB4.out)) HC.out (fun k hk => (HFR.out k hk).imp id (fun h => Nat.le_trans HB0.out.size h))
        rw [HAT.out] at h9
        exact h9
     · as_aux_lemma =>
        rw [if_neg hno, if_neg h2, if_neg h5]
        go_enter Tryz.func32, Tryz.ntmps32
        have hgb : ¬ ((pl : Int) < cl) := h2
        have hzb : (ch.e != 0) = true := by simpa using h5
        go_wp2_with (first
         | ((with_reducible refine loadM (x := ?lx66) (b := w.heap.size) (m.m) ?lg66 ?lo66 ?lxx66 ?lc66 ?lh66); (case lg66 => rfl); (case lo66 => rfl); (case lxx66 => rfl); (case lc66 => exact HX0.out))
         | (go_at_call 67; refine (cKeepA HA.out HBB.out (by have := HZ.out.len; omega) HM.out HMS.out).mono ?_; rintro e w1 ⟨rfl, x', hatt, hc, hap, htc, hfr, hrs, hvl⟩; have HAT := hid hatt; have HC := hid hc; have HA1 := hid hap; have HT1 := hid htc; have HFR := hid hfr; have HZ1 := hid (HZ.out.add hc hrs hvl HMS.out); have HVL := hid hvl; have HL1 := hid (HL.out.tch htc (HL.out.qa HA.out).1 (HL.out.qa HA.out).2); have HB1 : Hid (B ≤ w1.heap.size) := hid (Nat.le_trans HBB.out htc.size); have hsd := cSaid (cap := 1) (hap.on (laid1_b w1 (.cells #[.int .i64 4] 46))) (by have := HZ1.out.len; omega) (sor1 w1 4) (by simp) (by decide); clear hatt hc hap htc hfr hrs hvl)
         | (go_at_call 56; refine hsd.mono ?_; rintro e w2 ⟨v0, rfl, ho, hb⟩; obtain ⟨ra, rc, rn, rfl, hrn⟩ := OwnG.asSlice ho; have HSE : Hid (proL (x.att.add m.an) = (saidM [4] x'.rs).map Ms.an) := hid (by rw [← HAT.out, proL_an]); obtain rfl : rn = pl := (by rw [hrn, HPL.out, HSE.out]; unfold mgs; rw [List.length_map, List.length_map]); clear hrn; have HB2 : Hid (Below w1.heap.size w1 w2) := hid ((laid1_b w1 (.cells #[.int .i64 4] 46)).trans (hb.mono (by simp))); have HL2 := hid (HL1.out.on HB2.out); have HA2 := hid (HA1.out.on HB2.out); have HO2 := hid (OwnG.slG kM ho); obtain ⟨k0, k1, k2⟩ := HL2.out.cells; have hpl38 : rn ≤ 38 := (by have h1 := saidM_len [4] x'.rs; have h2 := HZ1.out.len; have h3 := HPL.out; rw [HSE.out, List.length_map] at h3; omega); have hch := cChoose N HO2.out (fun y hy => ((HA2.out.rs y (saidM_mem hy)).at)) (fun y hy => HZ1.out.sh y (saidM_mem hy)) (by have h1 := saidM_len [4] x'.rs; have h2 := HZ1.out.len; omega); have HCE : Hid (choF N (saidM [4] x'.rs) = ch) := hid (by rw [HCH.out, HSE.out, choA_an]); clear ho hb hsd)
         | (go_at_call 26; refine (hC _).mono ?_; rintro e w' ⟨rfl, rfl⟩)
         | (go_at_call 70; refine hch.mono ?_; rintro e w3 ⟨⟨ga, gn, gc⟩, rfl, hs, hb⟩; rw [HCE.out] at hs ⊢; have HS3 := hid hs; have HB3 : Hid (Below w1.heap.size w1 w3) := hid (HB2.out.trans (hb.mono HB2.out.size)); clear hs hb hch)
         | ((with_reducible refine storeCh (x := ?cx65) (y := ?cy65) (b := w3.heap.size) ch.k ch.t ⟨ga, gn, gc⟩ ?cg65 ?co65 ?cxx65 ?cyy65 ?cc65 ?ch65); (case cg65 => rfl); (case co65 => rfl); (case cxx65 => rfl); (case cyy65 => rfl); (case cc65 => exact roomCZ w3); intro w4 hO hU; have HO4 : Hid (OC w4 w3.heap.size ch.k ch.t ⟨ga, gn, gc⟩) := hid hO; have HB34 : Hid (Below w3.heap.size w3 w4) := hid ((laid1_b w3 zeroCc).trans (hU.below w3.heap.size (Nat.le_refl _))); have HB4 : Hid (Below w1.heap.size w1 w4) := hid (HB3.out.trans (HB34.out.mono HB3.out.size)); have HS4 := hid (HS3.out.on HB34.out); have HL4 := hid (HL1.out.on HB4.out); have HA4 := hid (HA1.out.on HB4.out); have hlv := cLeaveA HL4.out HA4.out HZ1.out.wf; clear hO hU)
         | (go_at_call 34; refine hlv.mono ?_; intro e w6 h2; have H2 := hid h2; obtain ⟨v, ls, rfl, h3⟩ := h2; have H3 := hid h3; clear h3 hlv)
         | fail)
        go_ret
        have h9 := ActP.from (x := x) H2.out (((Tch.ofBelow HB0.out).trans (HT1.out.mono fun k e => .inr e)).trans (Tch.ofBelow HB4.out)) HC.out (fun k hk => (HFR.out k hk).imp id (fun h => Nat.le_trans HB0.out.size h))
        exact h9
 · have hb1 : (ph != 2) = true := by simpa using h1
   by_cases h3 : ph = 3
   · subst h3
     rcases ex with _ | _
     · as_aux_lemma =>
        have hno : (3 : Int) ≠ 2 ∧ ¬ ((3 : Int) = 3 ∧ false = true) := ⟨by decide, fun h => absurd h.2 (by decide)⟩
        rw [if_pos hno]
        go_enter Tryz.func32, Tryz.ntmps32
        go_wp2_with fail
        go_ret
        exact ActP.still HL0.out HA0.out HB0.out
     · have hno : ¬ ((3 : Int) ≠ 2 ∧ ¬ ((3 : Int) = 3 ∧ true = true)) := fun h => h.2 ⟨rfl, rfl⟩
       by_cases h2 : (pl : Int) < cl
       · as_aux_lemma =>
          rw [if_neg hno, if_pos h2]
          go_enter Tryz.func32, Tryz.ntmps32
          have hgb : ((pl : Int) < cl) := h2
          go_wp2_with (first
           | ((with_reducible refine loadM (x := ?lx67) (b := w.heap.size) (m.m) ?lg67 ?lo67 ?lxx67 ?lc67 ?lh67); (case lg67 => rfl); (case lo67 => rfl); (case lxx67 => rfl); (case lc67 => exact HX0.out))
           | (go_at_call 67; refine (cKeepA HA.out HBB.out (by have := HZ.out.len; omega) HM.out HMS.out).mono ?_; rintro e w1 ⟨rfl, x', hatt, hc, hap, htc, hfr, hrs, hvl⟩; have HAT := hid hatt; have HC := hid hc; have HA1 := hid hap; have HT1 := hid htc; have HFR := hid hfr; have HZ1 := hid (HZ.out.add hc hrs hvl HMS.out); have HVL := hid hvl; have HL1 := hid (HL.out.tch htc (HL.out.qa HA.out).1 (HL.out.qa HA.out).2); have HB1 : Hid (B ≤ w1.heap.size) := hid (Nat.le_trans HBB.out htc.size); have hsd := cSaid (cap := 1) (hap.on (laid1_b w1 (.cells #[.int .i64 4] 46))) (by have := HZ1.out.len; omega) (sor1 w1 4) (by simp) (by decide); clear hatt hc hap htc hfr hrs hvl)
           | (go_at_call 56; refine hsd.mono ?_; rintro e w2 ⟨v0, rfl, ho, hb⟩; obtain ⟨ra, rc, rn, rfl, hrn⟩ := OwnG.asSlice ho; have HSE : Hid (proL (x.att.add m.an) = (saidM [4] x'.rs).map Ms.an) := hid (by rw [← HAT.out, proL_an]); obtain rfl : rn = pl := (by rw [hrn, HPL.out, HSE.out]; unfold mgs; rw [List.length_map, List.length_map]); clear hrn; have HB2 : Hid (Below w1.heap.size w1 w2) := hid ((laid1_b w1 (.cells #[.int .i64 4] 46)).trans (hb.mono (by simp))); have HL2 := hid (HL1.out.on HB2.out); have HA2 := hid (HA1.out.on HB2.out); have HO2 := hid (OwnG.slG kM ho); obtain ⟨k0, k1, k2⟩ := HL2.out.cells; have hpl38 : rn ≤ 38 := (by have h1 := saidM_len [4] x'.rs; have h2 := HZ1.out.len; have h3 := HPL.out; rw [HSE.out, List.length_map] at h3; omega); clear ho hb hsd)
           | (go_at_call 26; refine (hC _).mono ?_; rintro e w' ⟨rfl, rfl⟩)
           | fail)
          go_ret
          refine ActP.from (x := x) (ActP.still HL1.out HA1.out HB2.out : ActP w1 B q b n nd N f p x' _ _ w2) ((Tch.ofBelow HB0.out).trans (HT1.out.mono fun k e => .inr e)) HC.out (fun k hk => (HFR.out k hk).imp id (fun h => Nat.le_trans HB0.out.size h)) |> fun h => ?_
          rw [HAT.out] at h
          exact h
       · by_cases h5 : ch.e = 0
         · as_aux_lemma =>
            rw [if_neg hno, if_neg h2, if_pos h5]
            go_enter Tryz.func32, Tryz.ntmps32
            have hgb : ¬ ((pl : Int) < cl) := h2
            have hzb : (ch.e != 0) = false := by simp [h5]
            go_wp2_with (first
             | ((with_reducible refine loadM (x := ?lx70) (b := w.heap.size) (m.m) ?lg70 ?lo70 ?lxx70 ?lc70 ?lh70); (case lg70 => rfl); (case lo70 => rfl); (case lxx70 => rfl); (case lc70 => exact HX0.out))
             | (go_at_call 67; refine (cKeepA HA.out HBB.out (by have := HZ.out.len; omega) HM.out HMS.out).mono ?_; rintro e w1 ⟨rfl, x', hatt, hc, hap, htc, hfr, hrs, hvl⟩; have HAT := hid hatt; have HC := hid hc; have HA1 := hid hap; have HT1 := hid htc; have HFR := hid hfr; have HZ1 := hid (HZ.out.add hc hrs hvl HMS.out); have HVL := hid hvl; have HL1 := hid (HL.out.tch htc (HL.out.qa HA.out).1 (HL.out.qa HA.out).2); have HB1 : Hid (B ≤ w1.heap.size) := hid (Nat.le_trans HBB.out htc.size); have hsd := cSaid (cap := 1) (hap.on (laid1_b w1 (.cells #[.int .i64 4] 46))) (by have := HZ1.out.len; omega) (sor1 w1 4) (by simp) (by decide); clear hatt hc hap htc hfr hrs hvl)
             | (go_at_call 56; refine hsd.mono ?_; rintro e w2 ⟨v0, rfl, ho, hb⟩; obtain ⟨ra, rc, rn, rfl, hrn⟩ := OwnG.asSlice ho; have HSE : Hid (proL (x.att.add m.an) = (saidM [4] x'.rs).map Ms.an) := hid (by rw [← HAT.out, proL_an]); obtain rfl : rn = pl := (by rw [hrn, HPL.out, HSE.out]; unfold mgs; rw [List.length_map, List.length_map]); clear hrn; have HB2 : Hid (Below w1.heap.size w1 w2) := hid ((laid1_b w1 (.cells #[.int .i64 4] 46)).trans (hb.mono (by simp))); have HL2 := hid (HL1.out.on HB2.out); have HA2 := hid (HA1.out.on HB2.out); have HO2 := hid (OwnG.slG kM ho); obtain ⟨k0, k1, k2⟩ := HL2.out.cells; have hpl38 : rn ≤ 38 := (by have h1 := saidM_len [4] x'.rs; have h2 := HZ1.out.len; have h3 := HPL.out; rw [HSE.out, List.length_map] at h3; omega); have hch := cChoose N HO2.out (fun y hy => ((HA2.out.rs y (saidM_mem hy)).at)) (fun y hy => HZ1.out.sh y (saidM_mem hy)) (by have h1 := saidM_len [4] x'.rs; have h2 := HZ1.out.len; omega); have HCE : Hid (choF N (saidM [4] x'.rs) = ch) := hid (by rw [HCH.out, HSE.out, choA_an]); clear ho hb hsd)
             | (go_at_call 26; refine (hC _).mono ?_; rintro e w' ⟨rfl, rfl⟩)
             | (go_at_call 70; refine hch.mono ?_; rintro e w3 ⟨⟨ga, gn, gc⟩, rfl, hs, hb⟩; rw [HCE.out] at hs ⊢; have HS3 := hid hs; have HB3 : Hid (Below w1.heap.size w1 w3) := hid (HB2.out.trans (hb.mono HB2.out.size)); clear hs hb hch)
             | ((with_reducible refine storeCh (x := ?cx68) (y := ?cy68) (b := w3.heap.size) ch.k ch.t ⟨ga, gn, gc⟩ ?cg68 ?co68 ?cxx68 ?cyy68 ?cc68 ?ch68); (case cg68 => rfl); (case co68 => rfl); (case cxx68 => rfl); (case cyy68 => rfl); (case cc68 => exact roomCZ w3); intro w4 hO hU; have HO4 : Hid (OC w4 w3.heap.size ch.k ch.t ⟨ga, gn, gc⟩) := hid hO; have HB34 : Hid (Below w3.heap.size w3 w4) := hid ((laid1_b w3 zeroCc).trans (hU.below w3.heap.size (Nat.le_refl _))); have HB4 : Hid (Below w1.heap.size w1 w4) := hid (HB3.out.trans (HB34.out.mono HB3.out.size)); have HS4 := hid (HS3.out.on HB34.out); have HL4 := hid (HL1.out.on HB4.out); have HA4 := hid (HA1.out.on HB4.out); have hca := cGoOn HL4.out HA4.out HNN.out (Nat.le_trans HB1.out HB4.out.size) HZ1.out (ck := ch.k) (ct := ch.t) (cr := ⟨ga, gn, gc⟩) (cl := ch.l) (e0 := ch.e) (by rw [← HCE.out]; exact choF_k) HS4.out.setC (by rw [← HCE.out]; exact choF_len (fun y hy => HZ1.out.sh y (saidM_mem hy))); clear hO hU)
             | ((with_reducible refine loadCl (x := ?lcx69) (b := w3.heap.size) ch.k ch.t ⟨ga, gn, gc⟩ ?lcg69 ?lco69 ?lcxx69 ?lcc69 ?_); (case lcg69 => rfl); (case lco69 => rfl); (case lcxx69 => rfl); (case lcc69 => exact HO4.out.range))
             | (go_at_call 71; refine hca.mono ?_; intro e w6 h2; have H2 := hid h2; obtain ⟨v, ls, rfl, h3⟩ := h2; have H3 := hid h3; clear h3 hca)
             | fail)
            go_ret
            have h9 := ActP.from (x := x) H2.out (((Tch.ofBelow HB0.out).trans (HT1.out.mono fun k e => .inr e)).trans (Tch.ofBelow HB4.out)) HC.out (fun k hk => (HFR.out k hk).imp id (fun h => Nat.le_trans HB0.out.size h))
            rw [HAT.out] at h9
            exact h9
         · as_aux_lemma =>
            rw [if_neg hno, if_neg h2, if_neg h5]
            go_enter Tryz.func32, Tryz.ntmps32
            have hgb : ¬ ((pl : Int) < cl) := h2
            have hzb : (ch.e != 0) = true := by simpa using h5
            go_wp2_with (first
             | ((with_reducible refine loadM (x := ?lx72) (b := w.heap.size) (m.m) ?lg72 ?lo72 ?lxx72 ?lc72 ?lh72); (case lg72 => rfl); (case lo72 => rfl); (case lxx72 => rfl); (case lc72 => exact HX0.out))
             | (go_at_call 67; refine (cKeepA HA.out HBB.out (by have := HZ.out.len; omega) HM.out HMS.out).mono ?_; rintro e w1 ⟨rfl, x', hatt, hc, hap, htc, hfr, hrs, hvl⟩; have HAT := hid hatt; have HC := hid hc; have HA1 := hid hap; have HT1 := hid htc; have HFR := hid hfr; have HZ1 := hid (HZ.out.add hc hrs hvl HMS.out); have HVL := hid hvl; have HL1 := hid (HL.out.tch htc (HL.out.qa HA.out).1 (HL.out.qa HA.out).2); have HB1 : Hid (B ≤ w1.heap.size) := hid (Nat.le_trans HBB.out htc.size); have hsd := cSaid (cap := 1) (hap.on (laid1_b w1 (.cells #[.int .i64 4] 46))) (by have := HZ1.out.len; omega) (sor1 w1 4) (by simp) (by decide); clear hatt hc hap htc hfr hrs hvl)
             | (go_at_call 56; refine hsd.mono ?_; rintro e w2 ⟨v0, rfl, ho, hb⟩; obtain ⟨ra, rc, rn, rfl, hrn⟩ := OwnG.asSlice ho; have HSE : Hid (proL (x.att.add m.an) = (saidM [4] x'.rs).map Ms.an) := hid (by rw [← HAT.out, proL_an]); obtain rfl : rn = pl := (by rw [hrn, HPL.out, HSE.out]; unfold mgs; rw [List.length_map, List.length_map]); clear hrn; have HB2 : Hid (Below w1.heap.size w1 w2) := hid ((laid1_b w1 (.cells #[.int .i64 4] 46)).trans (hb.mono (by simp))); have HL2 := hid (HL1.out.on HB2.out); have HA2 := hid (HA1.out.on HB2.out); have HO2 := hid (OwnG.slG kM ho); obtain ⟨k0, k1, k2⟩ := HL2.out.cells; have hpl38 : rn ≤ 38 := (by have h1 := saidM_len [4] x'.rs; have h2 := HZ1.out.len; have h3 := HPL.out; rw [HSE.out, List.length_map] at h3; omega); have hch := cChoose N HO2.out (fun y hy => ((HA2.out.rs y (saidM_mem hy)).at)) (fun y hy => HZ1.out.sh y (saidM_mem hy)) (by have h1 := saidM_len [4] x'.rs; have h2 := HZ1.out.len; omega); have HCE : Hid (choF N (saidM [4] x'.rs) = ch) := hid (by rw [HCH.out, HSE.out, choA_an]); clear ho hb hsd)
             | (go_at_call 26; refine (hC _).mono ?_; rintro e w' ⟨rfl, rfl⟩)
             | (go_at_call 70; refine hch.mono ?_; rintro e w3 ⟨⟨ga, gn, gc⟩, rfl, hs, hb⟩; rw [HCE.out] at hs ⊢; have HS3 := hid hs; have HB3 : Hid (Below w1.heap.size w1 w3) := hid (HB2.out.trans (hb.mono HB2.out.size)); clear hs hb hch)
             | ((with_reducible refine storeCh (x := ?cx71) (y := ?cy71) (b := w3.heap.size) ch.k ch.t ⟨ga, gn, gc⟩ ?cg71 ?co71 ?cxx71 ?cyy71 ?cc71 ?ch71); (case cg71 => rfl); (case co71 => rfl); (case cxx71 => rfl); (case cyy71 => rfl); (case cc71 => exact roomCZ w3); intro w4 hO hU; have HO4 : Hid (OC w4 w3.heap.size ch.k ch.t ⟨ga, gn, gc⟩) := hid hO; have HB34 : Hid (Below w3.heap.size w3 w4) := hid ((laid1_b w3 zeroCc).trans (hU.below w3.heap.size (Nat.le_refl _))); have HB4 : Hid (Below w1.heap.size w1 w4) := hid (HB3.out.trans (HB34.out.mono HB3.out.size)); have HS4 := hid (HS3.out.on HB34.out); have HL4 := hid (HL1.out.on HB4.out); have HA4 := hid (HA1.out.on HB4.out); have hlv := cLeaveA HL4.out HA4.out HZ1.out.wf; clear hO hU)
             | (go_at_call 34; refine hlv.mono ?_; intro e w6 h2; have H2 := hid h2; obtain ⟨v, ls, rfl, h3⟩ := h2; have H3 := hid h3; clear h3 hlv)
             | fail)
            go_ret
            have h9 := ActP.from (x := x) H2.out (((Tch.ofBelow HB0.out).trans (HT1.out.mono fun k e => .inr e)).trans (Tch.ofBelow HB4.out)) HC.out (fun k hk => (HFR.out k hk).imp id (fun h => Nat.le_trans HB0.out.size h))
            exact h9
   · as_aux_lemma =>
      have hno : ph ≠ 2 ∧ ¬ (ph = 3 ∧ ex = true) := ⟨h1, fun h => h3 h.1⟩
      have hb3 : (ph == 3) = false := by simpa using h3
      rw [if_pos hno]
      go_enter Tryz.func32, Tryz.ntmps32
      go_wp2_with fail
      go_ret
      exact ActP.still HL0.out HA0.out HB0.out
end Go.Proofs.YtplodoindppleaaGreat
