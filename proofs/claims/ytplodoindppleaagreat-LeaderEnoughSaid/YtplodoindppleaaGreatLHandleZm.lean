import Derived.Test.YtplodoindppleaaGreatLOpsZm
namespace Go.Proofs.YtplodoindppleaaGreat
set_option linter.unusedVariables false
open Go.RowKit
open Go.Lib (hid)
theorem rh_loadW {P : Program} {md : Region.Mode} {S : World → Prop} {ops : Array Oper} {i : Nat} {o : Oper} {fuel : Nat} {listed listed' : Array Bool} {a a' : Act} {w : World} {Q : Exit → Act → World → Prop} {cs : List Value} {d : TypeDesc} {T : TypeId} {x : Operand} {b q : Nat} (hi : ops[i]? = some o) (hs : Region.noSelect ops = true) (hf : Region.free md ops listed i = true) (hr : (Region.ready md ops listed).contains i = true)
    (hQ : ∀ c a w, Q (.panic c) (a.put o.dst (.agg cs.toArray)) w → Q (.panic c) a w) (hl : listed.setIfInBounds i true = listed') (hg : Region.wanted o (yielded ops a.tmps) = true) (ho : o.op = .load T x) (hx : a.eval x = .pointer (some ⟨b, q, none⟩)) (hc : ∀ w, S w → w.rangeAt b q cs) (hu : P.underlying T = some d) (hd : d.isRow = true) (hz : (P.info? T).map (·.size) = some cs.length)
    (ha : a.put o.dst (.agg cs.toArray) = a') (hS : S w) (h : wpAnyH P md ops Q S fuel listed' a' w) : wpAnyH P md ops Q S (fuel + 1) listed a w := by
  subst hl ha
  exact wpAnyH_take hi hs hf hr hQ (yieldsIf_load_mid hg T x ho b q hx cs d hc hu hd hz) hS h
theorem handF_no {nd N : Int} {g : Lst} {m : An} (h : ¬ (rightA m = true ∧ m.tt = nd ∧ m.fr < N)) : handF nd N g m = (g, []) := by unfold handF; rw [if_neg h]
theorem handF_none {nd N : Int} {g : Lst} {m : An} (h : g m.c.i = none) : handF nd N g m = (g, []) := by
  unfold handF
  split
  · rw [h]
  · rfl
theorem handF_other {nd N : Int} {g : Lst} {m : An} {a : Att} (h : g m.c.i = some a) (hc : a.c.same m.c = false) : handF nd N g m = (g, []) := by
  unfold handF
  split
  · rw [h]
    show (if a.c.same m.c = true then _ else _) = _
    rw [if_neg (by rw [hc]; decide)]
  · rfl
theorem handF_go {nd N : Int} {g : Lst} {m : An} {a : Att} (h : rightA m = true ∧ m.tt = nd ∧ m.fr < N) (hg : g m.c.i = some a) (hc : a.c.same m.c = true) : handF nd N g m = (g.put m.c.i (replyF nd N a m).1, (replyF nd N a m).2) := by
  unfold handF
  rw [if_pos h, hg]
  show (if a.c.same m.c = true then _ else _) = _
  rw [if_pos hc]
set_option maxHeartbeats 16000000 in
set_option maxRecDepth 100000 in
theorem cHandle {w : World} {B q b n : Nat} {nd N : Int} {g : Gs} (h : Ld w B q b n nd N g) (hN : 3 ≤ N ∧ N ≤ 9) (hB : B ≤ w.heap.size) (hn : n < 1000000) (hz : ∀ i p x, g i = some (p, x) → Sz 37 x) {m : Ms} (hm : m.atC B w) (hms : m.short 1024) (hw : (Lit.int .i64 m.m.c.i).wf = true) : Calls Tryz.prog 13 #[ptr q, .agg m.m.arr] w (LdP w B q b n nd N g (handF nd N g.lst m.an)) := by
  have HH0 := hid h
  have HB0 : Hid (Below w.heap.size w (w.alloc (.cells m.m.arr 48))) := hid (laid1_b w _)
  have HX0 : Hid (OM (w.alloc (.cells m.m.arr 48)) w.heap.size m.m) := hid (laid1_0 w _)
  have HH := hid (h.on HB0.out)
  have HM := hid (hm.on HB0.out)
  have HMS := hid hms
  have HNN := hid hN
  have HZ := hid hz
  have HBB := hid (Nat.le_trans hB HB0.out.size)
  obtain ⟨R, hR⟩ : ∃ R, R = handF nd N g.lst m.an := ⟨_, rfl⟩
  have HR := hid hR
  rw [← hR]
  obtain ⟨so, hso⟩ : ∃ z, z = m.m.so := ⟨_, rfl⟩
  obtain ⟨fr, hfr⟩ : ∃ z, z = m.m.fr := ⟨_, rfl⟩
  obtain ⟨tt, htt⟩ : ∃ z, z = m.m.tt := ⟨_, rfl⟩
  obtain ⟨mb, hmb⟩ : ∃ z, z = m.m.bal := ⟨_, rfl⟩
  obtain ⟨rb, hrb⟩ : ∃ z, z = rightM m := ⟨_, rfl⟩
  have HSO := hid hso
  have HFR := hid hfr
  have HTT := hid htt
  have HMB := hid hmb
  have HRB := hid hrb
  have HF : Hid (∀ W, OM W w.heap.size m.m → W.cell? ⟨w.heap.size, 0, none⟩ = some (.int .i64 so) ∧ W.cell? ⟨w.heap.size, 1, none⟩ = some (.int .i64 fr) ∧ W.cell? ⟨w.heap.size, 2, none⟩ = some (.int .i64 tt) ∧ W.cell? ⟨w.heap.size, 3, none⟩ = some (.int .i64 mb) ∧ W.cell? ⟨w.heap.size, 4, none⟩ = some (.int .i64 m.m.c.i)) := hid (fun W hW => ⟨by rw [hso]; exact OM.cell (m := m.m) (j := 0) hW rfl, by rw [hfr]; exact OM.cell (m := m.m) (j := 1) hW rfl, by rw [htt]; exact OM.cell (m := m.m) (j := 2) hW rfl, by rw [hmb]; exact OM.cell (m := m.m) (j := 3) hW rfl, OM.cell (m := m.m) (j := 4) hW rfl⟩)
  have HCR : Hid (∀ W, Below w.heap.size w W → Calls Tryz.prog 28 #[.agg m.m.arr] W fun e w' => e = .returned (.bool rb) ∧ Below W.heap.size W w') := hid (fun W hW => by rw [hrb]; exact cRightM (hm.at.on hW) hms)
  clear hR hso hfr htt hmb hrb h hm hms hN hn hz hB
  go_enter Tryz.func13, Tryz.ntmps13
  go_upto_region 1 with fail
  generalize (w.alloc (.cells m.m.arr 48)) = W0 at HB0 HX0 HH HM HBB ⊢
  by_cases hr : rb = false
  · as_aux_lemma =>
      have hkk : rb = false := hr
      subst hkk
      refine rh_start (S := fun W => Below W0.heap.size W0 W) (n := 25) (listed := #[false, false, false, false, false, false, false, false, false, false, false, false, false, false, false, false, false, false, false, false, false, false, false, false, false]) (by kernel_rfl) rfl rfl ?_
      have HS0 : Hid (Below W0.heap.size W0 W0.drew) := hid (belowDrew (Below.refl _ W0))
      have HXW : Hid (∀ W, Below W0.heap.size W0 W → OM W w.heap.size m.m) := hid (fun W hW => heapB HX0.out hW (Array.getElem?_eq_some_iff.1 HX0.out).1)
      have HLW : Hid (∀ W, Below W0.heap.size W0 W → W.cell? ⟨q, 0, none⟩ = some (.int .i64 nd) ∧ W.cell? ⟨q, 1, none⟩ = some (.int .i64 N) ∧ W.cell? ⟨q, 2, none⟩ = some (.map (some b))) := hid (fun W hW => (HH.out.on hW).lq.cells)
      generalize W0.drew = wd at HS0 ⊢
      refine tkS 0 ?o1 ?v1 ?l1 ?a1 ?hi1 ?hq1 ?hl1 ?hw1 ?hv1 ?ha1 HS0.out ?hh1
      case hi1 => (simp only [List.getElem?_toArray, List.getElem?_cons_zero]; try rfl)
      case hq1 => exact fun _ _ _ h => h
      case hl1 => (simp only [List.setIfInBounds_toArray, List.set_cons_zero]; try rfl)
      case hw1 => rfl
      case hv1 =>
        intro W hW
        go_simp
        try with_reducible rfl
      case ha1 => (simp only [Act.put,gD,gE,gF]; try rfl)
      refine tkS 1 ?o2 ?v2 ?l2 ?a2 ?hi2 ?hq2 ?hl2 ?hw2 ?hv2 ?ha2 HS0.out ?hh2
      case hi2 => (simp only [gA,gB,gC]; try rfl)
      case hq2 => exact fun _ _ _ h => h
      case hl2 => (simp only [gD,gE,gF]; try rfl)
      case hw2 => rfl
      case hv2 =>
        intro W hW
        go_simp
        try with_reducible rfl
      case ha2 => (simp only [Act.put,gD,gE,gF]; try rfl)
      refine tkS 2 ?o3 ?v3 ?l3 ?a3 ?hi3 ?hq3 ?hl3 ?hw3 ?hv3 ?ha3 HS0.out ?hh3
      case hi3 => (simp only [gA,gB,gC]; try rfl)
      case hq3 => exact fun _ _ _ h => h
      case hl3 => (simp only [gD,gE,gF]; try rfl)
      case hw3 => rfl
      case hv3 =>
        intro W hW
        go_simp
        try with_reducible rfl
      case ha3 => (simp only [Act.put,gD,gE,gF]; try rfl)
      refine rh_loadW (i := 3) (o := ?o4) (cs := m.m.list) (T := 48) (x := ?x4) (b := ?b4) (q := ?q4) (listed' := ?l4) (a' := ?a4) ?hi4 (by kernel_rfl) (by kernel_rfl) (by kernel_rfl) ?hq4 ?hl4 ?hg4 ?ho4 ?hx4 ?hc4 Tryz.underlying48 rfl (infoM m.m) ?ha4 HS0.out ?hh4
      case hi4 => (simp only [gA,gB,gC]; try rfl)
      case hq4 => exact fun _ _ _ h => h
      case hl4 => (simp only [gD,gE,gF]; try rfl)
      case hg4 => rfl
      case ho4 => rfl
      case hx4 => rfl
      case hc4 => exact fun W hW => (HXW.out W hW).range
      case ha4 => (show Act.put _ _ (Value.agg m.m.arr) = _); (simp only [Act.put,gD,gE,gF]; try rfl)
      refine wpAnyH_ready (rs := [4]) (by kernel_rfl) (by simp) ?_
      refine rh_consW (i := 4) (o := ?o5) (listed' := ?l5) ?hi5 ?hl5 ?hg5 ?hh5 ?hs5
      case hi5 => (simp only [gA,gB,gC]; try rfl)
      case hl5 => (simp only [gD,gE,gF]; try rfl)
      case hg5 => rfl
      case hs5 => exact AllReadyH.nil
      intro K hK
      go_simp
      refine (HCR.out _ (HB0.out.trans (HS0.out.mono HB0.out.size))).mono ?_
      rintro z w1 ⟨rfl, hb⟩
      have HS1 : Hid (Below W0.heap.size W0 w1) := hid (HS0.out.trans (hb.mono HS0.out.size))
      clear hb
      refine hK.out _ _ HS1.out ?_
      clear hK K
      refine tkS 5 ?o6 ?v6 ?l6 ?a6 ?hi6 ?hq6 ?hl6 ?hw6 ?hv6 ?ha6 HS1.out ?hh6
      case hi6 => (simp only [gA,gB,gC]; try rfl)
      case hq6 => exact fun _ _ _ h => h
      case hl6 => (simp only [gD,gE,gF]; try rfl)
      case hw6 => rfl
      case hv6 =>
        intro W hW
        go_simp
        try with_reducible rfl
      case ha6 => (simp only [Act.put,gD,gE,gF]; try rfl)
      refine tkS 6 ?o7 ?v7 ?l7 ?a7 ?hi7 ?hq7 ?hl7 ?hw7 ?hv7 ?ha7 HS1.out ?hh7
      case hi7 => (simp only [gA,gB,gC]; try rfl)
      case hq7 => exact fun _ _ _ h => h
      case hl7 => (simp only [gD,gE,gF]; try rfl)
      case hw7 => rfl
      case hv7 =>
        intro W hW
        go_simp
        try with_reducible rfl
      case ha7 => (simp only [Act.put,gD,gE,gF]; try rfl)
      refine tkS 7 ?o8 ?v8 ?l8 ?a8 ?hi8 ?hq8 ?hl8 ?hw8 ?hv8 ?ha8 HS1.out ?hh8
      case hi8 => (simp only [gA,gB,gC]; try rfl)
      case hq8 => exact fun _ _ _ h => h
      case hl8 => (simp only [gD,gE,gF]; try rfl)
      case hw8 => rfl
      case hv8 =>
        intro W hW
        go_simp
        try with_reducible rfl
      case ha8 => (simp only [Act.put,gD,gE,gF]; try rfl)
      refine tkK 8 ?o9 ?l9 ?a9 ?hi9 ?hq9 ?hl9 ?hw9 ?ha9 HS1.out ?hh9
      case hi9 => (simp only [gA,gB,gC]; try rfl)
      case hq9 => exact fun _ _ _ h => h
      case hl9 => (simp only [gD,gE,gF]; try rfl)
      case hw9 => rfl
      case ha9 => (simp only [Act.put,gD,gE,gF]; try rfl)
      refine tkK 9 ?o10 ?l10 ?a10 ?hi10 ?hq10 ?hl10 ?hw10 ?ha10 HS1.out ?hh10
      case hi10 => (simp only [gA,gB,gC]; try rfl)
      case hq10 => exact fun _ _ _ h => h
      case hl10 => (simp only [gD,gE,gF]; try rfl)
      case hw10 => rfl
      case ha10 => (simp only [Act.put,gD,gE,gF]; try rfl)
      refine tkK 10 ?o11 ?l11 ?a11 ?hi11 ?hq11 ?hl11 ?hw11 ?ha11 HS1.out ?hh11
      case hi11 => (simp only [gA,gB,gC]; try rfl)
      case hq11 => exact fun _ _ _ h => h
      case hl11 => (simp only [gD,gE,gF]; try rfl)
      case hw11 => rfl
      case ha11 => (simp only [Act.put,gD,gE,gF]; try rfl)
      refine tkK 11 ?o12 ?l12 ?a12 ?hi12 ?hq12 ?hl12 ?hw12 ?ha12 HS1.out ?hh12
      case hi12 => (simp only [gA,gB,gC]; try rfl)
      case hq12 => exact fun _ _ _ h => h
      case hl12 => (simp only [gD,gE,gF]; try rfl)
      case hw12 => rfl
      case ha12 => (simp only [Act.put,gD,gE,gF]; try rfl)
      refine tkK 12 ?o13 ?l13 ?a13 ?hi13 ?hq13 ?hl13 ?hw13 ?ha13 HS1.out ?hh13
      case hi13 => (simp only [gA,gB,gC]; try rfl)
      case hq13 => exact fun _ _ _ h => h
      case hl13 => (simp only [gD,gE,gF]; try rfl)
      case hw13 => rfl
      case ha13 => (simp only [Act.put,gD,gE,gF]; try rfl)
      refine tkK 13 ?o14 ?l14 ?a14 ?hi14 ?hq14 ?hl14 ?hw14 ?ha14 HS1.out ?hh14
      case hi14 => (simp only [gA,gB,gC]; try rfl)
      case hq14 => exact fun _ _ _ h => h
      case hl14 => (simp only [gD,gE,gF]; try rfl)
      case hw14 => rfl
      case ha14 => (simp only [Act.put,gD,gE,gF]; try rfl)
      refine tkK 14 ?o15 ?l15 ?a15 ?hi15 ?hq15 ?hl15 ?hw15 ?ha15 HS1.out ?hh15
      case hi15 => (simp only [gA,gB,gC]; try rfl)
      case hq15 => exact fun _ _ _ h => h
      case hl15 => (simp only [gD,gE,gF]; try rfl)
      case hw15 => rfl
      case ha15 => (simp only [Act.put,gD,gE,gF]; try rfl)
      refine tkS 15 ?o16 ?v16 ?l16 ?a16 ?hi16 ?hq16 ?hl16 ?hw16 ?hv16 ?ha16 HS1.out ?hh16
      case hi16 => (simp only [gA,gB,gC]; try rfl)
      case hq16 => exact fun _ _ _ h => h
      case hl16 => (simp only [gD,gE,gF]; try rfl)
      case hw16 => rfl
      case hv16 =>
        intro W hW
        go_simp
        try with_reducible rfl
      case ha16 => (simp only [Act.put,gD,gE,gF]; try rfl)
      refine tkS 16 ?o17 ?v17 ?l17 ?a17 ?hi17 ?hq17 ?hl17 ?hw17 ?hv17 ?ha17 HS1.out ?hh17
      case hi17 => (simp only [gA,gB,gC]; try rfl)
      case hq17 => exact fun _ _ _ h => h
      case hl17 => (simp only [gD,gE,gF]; try rfl)
      case hw17 => rfl
      case hv17 =>
        intro W hW
        go_simp
        try with_reducible rfl
      case ha17 => (simp only [Act.put,gD,gE,gF]; try rfl)
      refine tkK 17 ?o18 ?l18 ?a18 ?hi18 ?hq18 ?hl18 ?hw18 ?ha18 HS1.out ?hh18
      case hi18 => (simp only [gA,gB,gC]; try rfl)
      case hq18 => exact fun _ _ _ h => h
      case hl18 => (simp only [gD,gE,gF]; try rfl)
      case hw18 => rfl
      case ha18 => (simp only [Act.put,gD,gE,gF]; try rfl)
      refine tkK 18 ?o19 ?l19 ?a19 ?hi19 ?hq19 ?hl19 ?hw19 ?ha19 HS1.out ?hh19
      case hi19 => (simp only [gA,gB,gC]; try rfl)
      case hq19 => exact fun _ _ _ h => h
      case hl19 => (simp only [gD,gE,gF]; try rfl)
      case hw19 => rfl
      case ha19 => (simp only [Act.put,gD,gE,gF]; try rfl)
      refine tkK 19 ?o20 ?l20 ?a20 ?hi20 ?hq20 ?hl20 ?hw20 ?ha20 HS1.out ?hh20
      case hi20 => (simp only [gA,gB,gC]; try rfl)
      case hq20 => exact fun _ _ _ h => h
      case hl20 => (simp only [gD,gE,gF]; try rfl)
      case hw20 => rfl
      case ha20 => (simp only [Act.put,gD,gE,gF]; try rfl)
      refine tkK 20 ?o21 ?l21 ?a21 ?hi21 ?hq21 ?hl21 ?hw21 ?ha21 HS1.out ?hh21
      case hi21 => (simp only [gA,gB,gC]; try rfl)
      case hq21 => exact fun _ _ _ h => h
      case hl21 => (simp only [gD,gE,gF]; try rfl)
      case hw21 => rfl
      case ha21 => (simp only [Act.put,gD,gE,gF]; try rfl)
      refine tkK 21 ?o22 ?l22 ?a22 ?hi22 ?hq22 ?hl22 ?hw22 ?ha22 HS1.out ?hh22
      case hi22 => (simp only [gA,gB,gC]; try rfl)
      case hq22 => exact fun _ _ _ h => h
      case hl22 => (simp only [gD,gE,gF]; try rfl)
      case hw22 => rfl
      case ha22 => (simp only [Act.put,gD,gE,gF]; try rfl)
      refine tkK 22 ?o23 ?l23 ?a23 ?hi23 ?hq23 ?hl23 ?hw23 ?ha23 HS1.out ?hh23
      case hi23 => (simp only [gA,gB,gC]; try rfl)
      case hq23 => exact fun _ _ _ h => h
      case hl23 => (simp only [gD,gE,gF]; try rfl)
      case hw23 => rfl
      case ha23 => (simp only [Act.put,gD,gE,gF]; try rfl)
      refine tkK 23 ?o24 ?l24 ?a24 ?hi24 ?hq24 ?hl24 ?hw24 ?ha24 HS1.out ?hh24
      case hi24 => (simp only [gA,gB,gC]; try rfl)
      case hq24 => exact fun _ _ _ h => h
      case hl24 => (simp only [gD,gE,gF]; try rfl)
      case hw24 => rfl
      case ha24 => (simp only [Act.put,gD,gE,gF]; try rfl)
      refine tkS 24 ?o25 ?v25 ?l25 ?a25 ?hi25 ?hq25 ?hl25 ?hw25 ?hv25 ?ha25 HS1.out ?hh25
      case hi25 => (simp only [gA,gB,gC]; try rfl)
      case hq25 => exact fun _ _ _ h => h
      case hl25 => (simp only [gD,gE,gF]; try rfl)
      case hw25 => rfl
      case hv25 =>
        intro W hW
        go_simp
        try with_reducible rfl
      case ha25 => (simp only [Act.put,gD,gE,gF]; try rfl)
      refine wpAnyH_done (by kernel_rfl) ?_ _
      have HB1 : Hid (Below w.heap.size w w1) := hid (HB0.out.trans (HS1.out.mono HB0.out.size))
      go_wp2_with fail
      go_ret
      rw [HR.out, handF_no (by rw [rightA_an]; rw [← HRB.out]; exact fun h => absurd h.1 (by decide))]
      exact LdP.still HH0.out HB1.out
  · have hkk : rb = true := by simpa using hr
    subst hkk
    clear hr
    by_cases ht : tt = nd
    · by_cases hf : fr < N
      · have hbt : (tt != nd) = false := by simp [ht]
        have hbf : decide (N ≤ fr) = false := decide_eq_false (by omega)
        refine rh_start (S := fun W => Below W0.heap.size W0 W) (n := 25) (listed := #[false, false, false, false, false, false, false, false, false, false, false, false, false, false, false, false, false, false, false, false, false, false, false, false, false]) (by kernel_rfl) rfl rfl ?_
        have HS0 : Hid (Below W0.heap.size W0 W0.drew) := hid (belowDrew (Below.refl _ W0))
        have HXW : Hid (∀ W, Below W0.heap.size W0 W → OM W w.heap.size m.m) := hid (fun W hW => heapB HX0.out hW (Array.getElem?_eq_some_iff.1 HX0.out).1)
        have HLW : Hid (∀ W, Below W0.heap.size W0 W → W.cell? ⟨q, 0, none⟩ = some (.int .i64 nd) ∧ W.cell? ⟨q, 1, none⟩ = some (.int .i64 N) ∧ W.cell? ⟨q, 2, none⟩ = some (.map (some b))) := hid (fun W hW => (HH.out.on hW).lq.cells)
        generalize W0.drew = wd at HS0 ⊢
        refine tkS 0 ?o76 ?v76 ?l76 ?a76 ?hi76 ?hq76 ?hl76 ?hw76 ?hv76 ?ha76 HS0.out ?hh76
        case hi76 => (simp only [List.getElem?_toArray, List.getElem?_cons_zero]; try rfl)
        case hq76 => exact fun _ _ _ h => h
        case hl76 => (simp only [List.setIfInBounds_toArray, List.set_cons_zero]; try rfl)
        case hw76 => rfl
        case hv76 =>
          intro W hW
          go_simp
          try with_reducible rfl
        case ha76 => (simp only [Act.put,gD,gE,gF]; try rfl)
        refine tkS 1 ?o77 ?v77 ?l77 ?a77 ?hi77 ?hq77 ?hl77 ?hw77 ?hv77 ?ha77 HS0.out ?hh77
        case hi77 => (simp only [gA,gB,gC]; try rfl)
        case hq77 => exact fun _ _ _ h => h
        case hl77 => (simp only [gD,gE,gF]; try rfl)
        case hw77 => rfl
        case hv77 =>
          intro W hW
          go_simp
          try with_reducible rfl
        case ha77 => (simp only [Act.put,gD,gE,gF]; try rfl)
        refine tkS 2 ?o78 ?v78 ?l78 ?a78 ?hi78 ?hq78 ?hl78 ?hw78 ?hv78 ?ha78 HS0.out ?hh78
        case hi78 => (simp only [gA,gB,gC]; try rfl)
        case hq78 => exact fun _ _ _ h => h
        case hl78 => (simp only [gD,gE,gF]; try rfl)
        case hw78 => rfl
        case hv78 =>
          intro W hW
          go_simp
          try with_reducible rfl
        case ha78 => (simp only [Act.put,gD,gE,gF]; try rfl)
        refine rh_loadW (i := 3) (o := ?o79) (cs := m.m.list) (T := 48) (x := ?x79) (b := ?b79) (q := ?q79) (listed' := ?l79) (a' := ?a79) ?hi79 (by kernel_rfl) (by kernel_rfl) (by kernel_rfl) ?hq79 ?hl79 ?hg79 ?ho79 ?hx79 ?hc79 Tryz.underlying48 rfl (infoM m.m) ?ha79 HS0.out ?hh79
        case hi79 => (simp only [gA,gB,gC]; try rfl)
        case hq79 => exact fun _ _ _ h => h
        case hl79 => (simp only [gD,gE,gF]; try rfl)
        case hg79 => rfl
        case ho79 => rfl
        case hx79 => rfl
        case hc79 => exact fun W hW => (HXW.out W hW).range
        case ha79 => (show Act.put _ _ (Value.agg m.m.arr) = _); (simp only [Act.put,gD,gE,gF]; try rfl)
        refine wpAnyH_ready (rs := [4]) (by kernel_rfl) (by simp) ?_
        refine rh_consW (i := 4) (o := ?o80) (listed' := ?l80) ?hi80 ?hl80 ?hg80 ?hh80 ?hs80
        case hi80 => (simp only [gA,gB,gC]; try rfl)
        case hl80 => (simp only [gD,gE,gF]; try rfl)
        case hg80 => rfl
        case hs80 => exact AllReadyH.nil
        intro K hK
        go_simp
        refine (HCR.out _ (HB0.out.trans (HS0.out.mono HB0.out.size))).mono ?_
        rintro z w1 ⟨rfl, hb⟩
        have HS1 : Hid (Below W0.heap.size W0 w1) := hid (HS0.out.trans (hb.mono HS0.out.size))
        clear hb
        refine hK.out _ _ HS1.out ?_
        clear hK K
        refine tkS 5 ?o81 ?v81 ?l81 ?a81 ?hi81 ?hq81 ?hl81 ?hw81 ?hv81 ?ha81 HS1.out ?hh81
        case hi81 => (simp only [gA,gB,gC]; try rfl)
        case hq81 => exact fun _ _ _ h => h
        case hl81 => (simp only [gD,gE,gF]; try rfl)
        case hw81 => rfl
        case hv81 =>
          intro W hW
          go_simp
          try with_reducible rfl
        case ha81 => (simp only [Act.put,gD,gE,gF]; try rfl)
        refine tkS 6 ?o82 ?v82 ?l82 ?a82 ?hi82 ?hq82 ?hl82 ?hw82 ?hv82 ?ha82 HS1.out ?hh82
        case hi82 => (simp only [gA,gB,gC]; try rfl)
        case hq82 => exact fun _ _ _ h => h
        case hl82 => (simp only [gD,gE,gF]; try rfl)
        case hw82 => rfl
        case hv82 =>
          intro W hW
          go_simp
          try with_reducible rfl
        case ha82 => (simp only [Act.put,gD,gE,gF]; try rfl)
        refine tkS 7 ?o83 ?v83 ?l83 ?a83 ?hi83 ?hq83 ?hl83 ?hw83 ?hv83 ?ha83 HS1.out ?hh83
        case hi83 => (simp only [gA,gB,gC]; try rfl)
        case hq83 => exact fun _ _ _ h => h
        case hl83 => (simp only [gD,gE,gF]; try rfl)
        case hw83 => rfl
        case hv83 =>
          intro W hW
          go_simp
          try with_reducible rfl
        case ha83 => (simp only [Act.put,gD,gE,gF]; try rfl)
        refine tkS 8 ?o84 ?v84 ?l84 ?a84 ?hi84 ?hq84 ?hl84 ?hw84 ?hv84 ?ha84 HS1.out ?hh84
        case hi84 => (simp only [gA,gB,gC]; try rfl)
        case hq84 => exact fun _ _ _ h => h
        case hl84 => (simp only [gD,gE,gF]; try rfl)
        case hw84 => rfl
        case hv84 =>
          intro W hW
          go_simp
          try with_reducible rfl
        case ha84 => (simp only [Act.put,gD,gE,gF]; try rfl)
        refine tkS 9 ?o85 ?v85 ?l85 ?a85 ?hi85 ?hq85 ?hl85 ?hw85 ?hv85 ?ha85 HS1.out ?hh85
        case hi85 => (simp only [gA,gB,gC]; try rfl)
        case hq85 => exact fun _ _ _ h => h
        case hl85 => (simp only [gD,gE,gF]; try rfl)
        case hw85 => rfl
        case hv85 =>
          intro W hW
          obtain ⟨m0, m1, m2, m3, m4⟩ := HF.out W (HXW.out W hW); obtain ⟨k0, k1, k2⟩ := HLW.out W hW
          go_simp
          try with_reducible rfl
        case ha85 => (simp only [Act.put,gD,gE,gF]; try rfl)
        refine tkS 10 ?o86 ?v86 ?l86 ?a86 ?hi86 ?hq86 ?hl86 ?hw86 ?hv86 ?ha86 HS1.out ?hh86
        case hi86 => (simp only [gA,gB,gC]; try rfl)
        case hq86 => exact fun _ _ _ h => h
        case hl86 => (simp only [gD,gE,gF]; try rfl)
        case hw86 => rfl
        case hv86 =>
          intro W hW
          go_simp
          try with_reducible rfl
        case ha86 => (simp only [Act.put,gD,gE,gF]; try rfl)
        refine tkS 11 ?o87 ?v87 ?l87 ?a87 ?hi87 ?hq87 ?hl87 ?hw87 ?hv87 ?ha87 HS1.out ?hh87
        case hi87 => (simp only [gA,gB,gC]; try rfl)
        case hq87 => exact fun _ _ _ h => h
        case hl87 => (simp only [gD,gE,gF]; try rfl)
        case hw87 => rfl
        case hv87 =>
          intro W hW
          go_simp
          try with_reducible rfl
        case ha87 => (simp only [Act.put,gD,gE,gF]; try rfl)
        refine tkS 12 ?o88 ?v88 ?l88 ?a88 ?hi88 ?hq88 ?hl88 ?hw88 ?hv88 ?ha88 HS1.out ?hh88
        case hi88 => (simp only [gA,gB,gC]; try rfl)
        case hq88 => exact fun _ _ _ h => h
        case hl88 => (simp only [gD,gE,gF]; try rfl)
        case hw88 => rfl
        case hv88 =>
          intro W hW
          go_simp
          try with_reducible rfl
        case ha88 => (simp only [Act.put,gD,gE,gF]; try rfl)
        refine tkS 13 ?o89 ?v89 ?l89 ?a89 ?hi89 ?hq89 ?hl89 ?hw89 ?hv89 ?ha89 HS1.out ?hh89
        case hi89 => (simp only [gA,gB,gC]; try rfl)
        case hq89 => exact fun _ _ _ h => h
        case hl89 => (simp only [gD,gE,gF]; try rfl)
        case hw89 => rfl
        case hv89 =>
          intro W hW
          obtain ⟨m0, m1, m2, m3, m4⟩ := HF.out W (HXW.out W hW); obtain ⟨k0, k1, k2⟩ := HLW.out W hW
          go_simp
          try with_reducible rfl
        case ha89 => (simp only [Act.put,gD,gE,gF]; try rfl)
        refine tkS 14 ?o90 ?v90 ?l90 ?a90 ?hi90 ?hq90 ?hl90 ?hw90 ?hv90 ?ha90 HS1.out ?hh90
        case hi90 => (simp only [gA,gB,gC]; try rfl)
        case hq90 => exact fun _ _ _ h => h
        case hl90 => (simp only [gD,gE,gF]; try rfl)
        case hw90 => rfl
        case hv90 =>
          intro W hW
          go_simp
          try with_reducible rfl
        case ha90 => (simp only [Act.put,gD,gE,gF]; try rfl)
        refine tkS 15 ?o91 ?v91 ?l91 ?a91 ?hi91 ?hq91 ?hl91 ?hw91 ?hv91 ?ha91 HS1.out ?hh91
        case hi91 => (simp only [gA,gB,gC]; try rfl)
        case hq91 => exact fun _ _ _ h => h
        case hl91 => (simp only [gD,gE,gF]; try rfl)
        case hw91 => rfl
        case hv91 =>
          intro W hW
          go_simp
          try with_reducible rfl
        case ha91 => (simp only [Act.put,gD,gE,gF]; try rfl)
        refine tkS 16 ?o92 ?v92 ?l92 ?a92 ?hi92 ?hq92 ?hl92 ?hw92 ?hv92 ?ha92 HS1.out ?hh92
        case hi92 => (simp only [gA,gB,gC]; try rfl)
        case hq92 => exact fun _ _ _ h => h
        case hl92 => (simp only [gD,gE,gF]; try rfl)
        case hw92 => rfl
        case hv92 =>
          intro W hW
          go_simp
          try with_reducible rfl
        case ha92 => (simp only [Act.put,gD,gE,gF]; try rfl)
        refine tkS 17 ?o93 ?v93 ?l93 ?a93 ?hi93 ?hq93 ?hl93 ?hw93 ?hv93 ?ha93 HS1.out ?hh93
        case hi93 => (simp only [gA,gB,gC]; try rfl)
        case hq93 => exact fun _ _ _ h => h
        case hl93 => (simp only [gD,gE,gF]; try rfl)
        case hw93 => rfl
        case hv93 =>
          intro W hW
          go_simp
          try with_reducible rfl
        case ha93 => (simp only [Act.put,gD,gE,gF]; try rfl)
        refine tkS 18 ?o94 ?v94 ?l94 ?a94 ?hi94 ?hq94 ?hl94 ?hw94 ?hv94 ?ha94 HS1.out ?hh94
        case hi94 => (simp only [gA,gB,gC]; try rfl)
        case hq94 => exact fun _ _ _ h => h
        case hl94 => (simp only [gD,gE,gF]; try rfl)
        case hw94 => rfl
        case hv94 =>
          intro W hW
          obtain ⟨m0, m1, m2, m3, m4⟩ := HF.out W (HXW.out W hW); obtain ⟨k0, k1, k2⟩ := HLW.out W hW
          go_simp
          try with_reducible rfl
        case ha94 => (simp only [Act.put,gD,gE,gF]; try rfl)
        refine tkS 19 ?o95 ?v95 ?l95 ?a95 ?hi95 ?hq95 ?hl95 ?hw95 ?hv95 ?ha95 HS1.out ?hh95
        case hi95 => (simp only [gA,gB,gC]; try rfl)
        case hq95 => exact fun _ _ _ h => h
        case hl95 => (simp only [gD,gE,gF]; try rfl)
        case hw95 => rfl
        case hv95 =>
          intro W hW
          go_simp
          try with_reducible rfl
        case ha95 => (simp only [Act.put,gD,gE,gF]; try rfl)
        refine tkS 20 ?o96 ?v96 ?l96 ?a96 ?hi96 ?hq96 ?hl96 ?hw96 ?hv96 ?ha96 HS1.out ?hh96
        case hi96 => (simp only [gA,gB,gC]; try rfl)
        case hq96 => exact fun _ _ _ h => h
        case hl96 => (simp only [gD,gE,gF]; try rfl)
        case hw96 => rfl
        case hv96 =>
          intro W hW
          go_simp
          try with_reducible rfl
        case ha96 => (simp only [Act.put,gD,gE,gF]; try rfl)
        refine tkS 21 ?o97 ?v97 ?l97 ?a97 ?hi97 ?hq97 ?hl97 ?hw97 ?hv97 ?ha97 HS1.out ?hh97
        case hi97 => (simp only [gA,gB,gC]; try rfl)
        case hq97 => exact fun _ _ _ h => h
        case hl97 => (simp only [gD,gE,gF]; try rfl)
        case hw97 => rfl
        case hv97 =>
          intro W hW
          go_simp
          try with_reducible rfl
        case ha97 => (simp only [Act.put,gD,gE,gF]; try rfl)
        refine tkS 22 ?o98 ?v98 ?l98 ?a98 ?hi98 ?hq98 ?hl98 ?hw98 ?hv98 ?ha98 HS1.out ?hh98
        case hi98 => (simp only [gA,gB,gC]; try rfl)
        case hq98 => exact fun _ _ _ h => h
        case hl98 => (simp only [gD,gE,gF]; try rfl)
        case hw98 => rfl
        case hv98 =>
          intro W hW
          obtain ⟨m0, m1, m2, m3, m4⟩ := HF.out W (HXW.out W hW); obtain ⟨k0, k1, k2⟩ := HLW.out W hW
          go_simp
          try with_reducible rfl
        case ha98 => (simp only [Act.put,gD,gE,gF]; try rfl)
        refine tkS 23 ?o99 ?v99 ?l99 ?a99 ?hi99 ?hq99 ?hl99 ?hw99 ?hv99 ?ha99 HS1.out ?hh99
        case hi99 => (simp only [gA,gB,gC]; try rfl)
        case hq99 => exact fun _ _ _ h => h
        case hl99 => (simp only [gD,gE,gF]; try rfl)
        case hw99 => rfl
        case hv99 =>
          intro W hW
          go_simp
          try with_reducible rfl
        case ha99 => (simp only [Act.put,gD,gE,gF]; try rfl)
        refine tkS 24 ?o100 ?v100 ?l100 ?a100 ?hi100 ?hq100 ?hl100 ?hw100 ?hv100 ?ha100 HS1.out ?hh100
        case hi100 => (simp only [gA,gB,gC]; try rfl)
        case hq100 => exact fun _ _ _ h => h
        case hl100 => (simp only [gD,gE,gF]; try rfl)
        case hw100 => rfl
        case hv100 =>
          intro W hW
          go_simp
          try with_reducible rfl
        case ha100 => (simp only [Act.put,gD,gE,gF]; try rfl)
        refine wpAnyH_done (by kernel_rfl) ?_ _
        have HB1 : Hid (Below w.heap.size w w1) := hid (HB0.out.trans (HS1.out.mono HB0.out.size))
        have HGO : Hid (rightA m.an = true ∧ m.an.tt = nd ∧ m.an.fr < N) := hid ⟨by rw [rightA_an, ← HRB.out], HTT.out.symm.trans ht, by have := HFR.out; show m.m.fr < N; omega⟩
        have HH1 := hid (HH.out.on HS1.out)
        have HX1 : Hid (OM w1 w.heap.size m.m) := hid (HXW.out _ HS1.out)
        have HM1 := hid (HM.out.on HS1.out)
        have HBB1 := hid (Nat.le_trans HBB.out HS1.out.size)
        clear HXW HLW hbt hbf HH HM HBB HX0 HB0 HS0
        have hlk := fun W (hW : Below w1.heap.size w1 W) => run_lookL (HH1.out.on hW).lq.mp hw
        go_upto_region 3 with fail
        rcases hg : g m.m.c.i with _ | ⟨p, x⟩
        · as_aux_lemma =>
            rw [show g.ptrs m.m.c.i = none by unfold Gs.ptrs; rw [hg]; rfl] at hlk
            rw [show ptrO none = Value.pointer none from rfl] at hlk
            refine rh_start (S := fun W => Below w1.heap.size w1 W) (n := 9) (listed := #[false, false, false, false, false, false, false, false, false]) (by kernel_rfl) rfl rfl ?_
            have HBq : Hid (Below w1.heap.size w1 w1.drew) := hid (belowDrew (Below.refl _ w1))
            have HXW : Hid (∀ W, Below w1.heap.size w1 W → OM W w.heap.size m.m) := hid (fun W hW => heapB HX1.out hW (Array.getElem?_eq_some_iff.1 HX1.out).1)
            have HLW : Hid (∀ W, Below w1.heap.size w1 W → W.cell? ⟨q, 0, none⟩ = some (.int .i64 nd) ∧ W.cell? ⟨q, 1, none⟩ = some (.int .i64 N) ∧ W.cell? ⟨q, 2, none⟩ = some (.map (some b))) := hid (fun W hW => (HH1.out.on hW).lq.cells)
            generalize w1.drew = w2 at HBq ⊢
            refine tkS 0 ?o142 ?v142 ?l142 ?a142 ?hi142 ?hq142 ?hl142 ?hw142 ?hv142 ?ha142 HBq.out ?hh142
            case hi142 => (simp only [List.getElem?_toArray, List.getElem?_cons_zero]; try rfl)
            case hq142 => exact fun _ _ _ h => h
            case hl142 => (simp only [List.setIfInBounds_toArray, List.set_cons_zero]; try rfl)
            case hw142 => rfl
            case hv142 =>
              intro W hW
              go_simp
              try with_reducible rfl
            case ha142 => (simp only [Act.put,gD,gE,gF]; try rfl)
            refine tkS 1 ?o143 ?v143 ?l143 ?a143 ?hi143 ?hq143 ?hl143 ?hw143 ?hv143 ?ha143 HBq.out ?hh143
            case hi143 => (simp only [gA,gB,gC]; try rfl)
            case hq143 => exact fun _ _ _ h => h
            case hl143 => (simp only [gD,gE,gF]; try rfl)
            case hw143 => rfl
            case hv143 =>
              intro W hW
              go_simp
              try with_reducible rfl
            case ha143 => (simp only [Act.put,gD,gE,gF]; try rfl)
            refine tkS 2 ?o144 ?v144 ?l144 ?a144 ?hi144 ?hq144 ?hl144 ?hw144 ?hv144 ?ha144 HBq.out ?hh144
            case hi144 => (simp only [gA,gB,gC]; try rfl)
            case hq144 => exact fun _ _ _ h => h
            case hl144 => (simp only [gD,gE,gF]; try rfl)
            case hw144 => rfl
            case hv144 =>
              intro W hW
              go_simp
              try with_reducible rfl
            case ha144 => (simp only [Act.put,gD,gE,gF]; try rfl)
            refine tkS 3 ?o145 ?v145 ?l145 ?a145 ?hi145 ?hq145 ?hl145 ?hw145 ?hv145 ?ha145 HBq.out ?hh145
            case hi145 => (simp only [gA,gB,gC]; try rfl)
            case hq145 => exact fun _ _ _ h => h
            case hl145 => (simp only [gD,gE,gF]; try rfl)
            case hw145 => rfl
            case hv145 =>
              intro W hW
              obtain ⟨m0, m1, m2, m3, m4⟩ := HF.out W (HXW.out W hW); obtain ⟨k0, k1, k2⟩ := HLW.out W hW; have hl := hlk W hW
              go_simp
              try with_reducible rfl
            case ha145 => (simp only [Act.put,gD,gE,gF]; try rfl)
            refine tkS 4 ?o146 ?v146 ?l146 ?a146 ?hi146 ?hq146 ?hl146 ?hw146 ?hv146 ?ha146 HBq.out ?hh146
            case hi146 => (simp only [gA,gB,gC]; try rfl)
            case hq146 => exact fun _ _ _ h => h
            case hl146 => (simp only [gD,gE,gF]; try rfl)
            case hw146 => rfl
            case hv146 =>
              intro W hW
              go_simp
              try with_reducible rfl
            case ha146 => (simp only [Act.put,gD,gE,gF]; try rfl)
            refine tkS 5 ?o147 ?v147 ?l147 ?a147 ?hi147 ?hq147 ?hl147 ?hw147 ?hv147 ?ha147 HBq.out ?hh147
            case hi147 => (simp only [gA,gB,gC]; try rfl)
            case hq147 => exact fun _ _ _ h => h
            case hl147 => (simp only [gD,gE,gF]; try rfl)
            case hw147 => rfl
            case hv147 =>
              intro W hW
              go_simp
              try with_reducible rfl
            case ha147 => (simp only [Act.put,gD,gE,gF]; try rfl)
            refine tkS 6 ?o148 ?v148 ?l148 ?a148 ?hi148 ?hq148 ?hl148 ?hw148 ?hv148 ?ha148 HBq.out ?hh148
            case hi148 => (simp only [gA,gB,gC]; try rfl)
            case hq148 => exact fun _ _ _ h => h
            case hl148 => (simp only [gD,gE,gF]; try rfl)
            case hw148 => rfl
            case hv148 =>
              intro W hW
              obtain ⟨m0, m1, m2, m3, m4⟩ := HF.out W (HXW.out W hW); obtain ⟨k0, k1, k2⟩ := HLW.out W hW; have hl := hlk W hW
              go_simp
              try with_reducible rfl
            case ha148 => (simp only [Act.put,gD,gE,gF]; try rfl)
            refine tkS 7 ?o149 ?v149 ?l149 ?a149 ?hi149 ?hq149 ?hl149 ?hw149 ?hv149 ?ha149 HBq.out ?hh149
            case hi149 => (simp only [gA,gB,gC]; try rfl)
            case hq149 => exact fun _ _ _ h => h
            case hl149 => (simp only [gD,gE,gF]; try rfl)
            case hw149 => rfl
            case hv149 =>
              intro W hW
              obtain ⟨m0, m1, m2, m3, m4⟩ := HF.out W (HXW.out W hW); obtain ⟨k0, k1, k2⟩ := HLW.out W hW; have hl := hlk W hW
              go_simp
              try with_reducible rfl
            case ha149 => (simp only [Act.put,gD,gE,gF]; try rfl)
            refine tkS 8 ?o150 ?v150 ?l150 ?a150 ?hi150 ?hq150 ?hl150 ?hw150 ?hv150 ?ha150 HBq.out ?hh150
            case hi150 => (simp only [gA,gB,gC]; try rfl)
            case hq150 => exact fun _ _ _ h => h
            case hl150 => (simp only [gD,gE,gF]; try rfl)
            case hw150 => rfl
            case hv150 =>
              intro W hW
              go_simp
              try with_reducible rfl
            case ha150 => (simp only [Act.put,gD,gE,gF]; try rfl)
            refine wpAnyH_done (by kernel_rfl) ?_ _
            clear HXW HLW
            go_upto_region 4 with fail
            go_quiet (fail)
            have HBr : Hid (Below w2.heap.size w2 (w2.drewN nq)) := hid (Below.drewL (Below.refl _ w2) nq)
            generalize w2.drewN nq = w3 at HBr ⊢
            go_wp2_with fail
            go_ret
            rw [HR.out, handF_none (show g.lst m.an.c.i = none by unfold Gs.lst; rw [show m.an.c.i = m.m.c.i from rfl, hg]; rfl)]
            exact LdP.still HH0.out (HB1.out.trans ((HBq.out.trans (HBr.out.mono HBq.out.size)).mono HB1.out.size))
        · have HG := hid hg
          rw [show g.ptrs m.m.c.i = some p by unfold Gs.ptrs; rw [hg]; rfl] at hlk
          rw [show ptrO (some p) = ptr p from rfl] at hlk
          refine rh_start (S := fun W => Below w1.heap.size w1 W) (n := 9) (listed := #[false, false, false, false, false, false, false, false, false]) (by kernel_rfl) rfl rfl ?_
          have HBq : Hid (Below w1.heap.size w1 w1.drew) := hid (belowDrew (Below.refl _ w1))
          have HXW : Hid (∀ W, Below w1.heap.size w1 W → OM W w.heap.size m.m) := hid (fun W hW => heapB HX1.out hW (Array.getElem?_eq_some_iff.1 HX1.out).1)
          have HLW : Hid (∀ W, Below w1.heap.size w1 W → W.cell? ⟨q, 0, none⟩ = some (.int .i64 nd) ∧ W.cell? ⟨q, 1, none⟩ = some (.int .i64 N) ∧ W.cell? ⟨q, 2, none⟩ = some (.map (some b))) := hid (fun W hW => (HH1.out.on hW).lq.cells)
          generalize w1.drew = w2 at HBq ⊢
          refine tkS 0 ?o151 ?v151 ?l151 ?a151 ?hi151 ?hq151 ?hl151 ?hw151 ?hv151 ?ha151 HBq.out ?hh151
          case hi151 => (simp only [List.getElem?_toArray, List.getElem?_cons_zero]; try rfl)
          case hq151 => exact fun _ _ _ h => h
          case hl151 => (simp only [List.setIfInBounds_toArray, List.set_cons_zero]; try rfl)
          case hw151 => rfl
          case hv151 =>
            intro W hW
            go_simp
            try with_reducible rfl
          case ha151 => (simp only [Act.put,gD,gE,gF]; try rfl)
          refine tkS 1 ?o152 ?v152 ?l152 ?a152 ?hi152 ?hq152 ?hl152 ?hw152 ?hv152 ?ha152 HBq.out ?hh152
          case hi152 => (simp only [gA,gB,gC]; try rfl)
          case hq152 => exact fun _ _ _ h => h
          case hl152 => (simp only [gD,gE,gF]; try rfl)
          case hw152 => rfl
          case hv152 =>
            intro W hW
            go_simp
            try with_reducible rfl
          case ha152 => (simp only [Act.put,gD,gE,gF]; try rfl)
          refine tkS 2 ?o153 ?v153 ?l153 ?a153 ?hi153 ?hq153 ?hl153 ?hw153 ?hv153 ?ha153 HBq.out ?hh153
          case hi153 => (simp only [gA,gB,gC]; try rfl)
          case hq153 => exact fun _ _ _ h => h
          case hl153 => (simp only [gD,gE,gF]; try rfl)
          case hw153 => rfl
          case hv153 =>
            intro W hW
            go_simp
            try with_reducible rfl
          case ha153 => (simp only [Act.put,gD,gE,gF]; try rfl)
          refine tkS 3 ?o154 ?v154 ?l154 ?a154 ?hi154 ?hq154 ?hl154 ?hw154 ?hv154 ?ha154 HBq.out ?hh154
          case hi154 => (simp only [gA,gB,gC]; try rfl)
          case hq154 => exact fun _ _ _ h => h
          case hl154 => (simp only [gD,gE,gF]; try rfl)
          case hw154 => rfl
          case hv154 =>
            intro W hW
            obtain ⟨m0, m1, m2, m3, m4⟩ := HF.out W (HXW.out W hW); obtain ⟨k0, k1, k2⟩ := HLW.out W hW; have hl := hlk W hW
            go_simp
            try with_reducible rfl
          case ha154 => (simp only [Act.put,gD,gE,gF]; try rfl)
          refine tkS 4 ?o155 ?v155 ?l155 ?a155 ?hi155 ?hq155 ?hl155 ?hw155 ?hv155 ?ha155 HBq.out ?hh155
          case hi155 => (simp only [gA,gB,gC]; try rfl)
          case hq155 => exact fun _ _ _ h => h
          case hl155 => (simp only [gD,gE,gF]; try rfl)
          case hw155 => rfl
          case hv155 =>
            intro W hW
            go_simp
            try with_reducible rfl
          case ha155 => (simp only [Act.put,gD,gE,gF]; try rfl)
          refine tkS 5 ?o156 ?v156 ?l156 ?a156 ?hi156 ?hq156 ?hl156 ?hw156 ?hv156 ?ha156 HBq.out ?hh156
          case hi156 => (simp only [gA,gB,gC]; try rfl)
          case hq156 => exact fun _ _ _ h => h
          case hl156 => (simp only [gD,gE,gF]; try rfl)
          case hw156 => rfl
          case hv156 =>
            intro W hW
            go_simp
            try with_reducible rfl
          case ha156 => (simp only [Act.put,gD,gE,gF]; try rfl)
          refine tkS 6 ?o157 ?v157 ?l157 ?a157 ?hi157 ?hq157 ?hl157 ?hw157 ?hv157 ?ha157 HBq.out ?hh157
          case hi157 => (simp only [gA,gB,gC]; try rfl)
          case hq157 => exact fun _ _ _ h => h
          case hl157 => (simp only [gD,gE,gF]; try rfl)
          case hw157 => rfl
          case hv157 =>
            intro W hW
            obtain ⟨m0, m1, m2, m3, m4⟩ := HF.out W (HXW.out W hW); obtain ⟨k0, k1, k2⟩ := HLW.out W hW; have hl := hlk W hW
            go_simp
            try with_reducible rfl
          case ha157 => (simp only [Act.put,gD,gE,gF]; try rfl)
          refine tkS 7 ?o158 ?v158 ?l158 ?a158 ?hi158 ?hq158 ?hl158 ?hw158 ?hv158 ?ha158 HBq.out ?hh158
          case hi158 => (simp only [gA,gB,gC]; try rfl)
          case hq158 => exact fun _ _ _ h => h
          case hl158 => (simp only [gD,gE,gF]; try rfl)
          case hw158 => rfl
          case hv158 =>
            intro W hW
            obtain ⟨m0, m1, m2, m3, m4⟩ := HF.out W (HXW.out W hW); obtain ⟨k0, k1, k2⟩ := HLW.out W hW; have hl := hlk W hW
            go_simp
            try with_reducible rfl
          case ha158 => (simp only [Act.put,gD,gE,gF]; try rfl)
          refine tkS 8 ?o159 ?v159 ?l159 ?a159 ?hi159 ?hq159 ?hl159 ?hw159 ?hv159 ?ha159 HBq.out ?hh159
          case hi159 => (simp only [gA,gB,gC]; try rfl)
          case hq159 => exact fun _ _ _ h => h
          case hl159 => (simp only [gD,gE,gF]; try rfl)
          case hw159 => rfl
          case hv159 =>
            intro W hW
            go_simp
            try with_reducible rfl
          case ha159 => (simp only [Act.put,gD,gE,gF]; try rfl)
          refine wpAnyH_done (by kernel_rfl) ?_ _
          clear HXW HLW
          clear hg hlk
          have HGL : Hid (g.lst m.an.c.i = some x.att) := hid (by unfold Gs.lst; rw [show m.an.c.i = m.m.c.i from rfl, HG.out]; rfl)
          have HH2 := hid (HH1.out.on HBq.out)
          have HX2 : Hid (OM w2 w.heap.size m.m) := hid (heapB HX1.out HBq.out (Array.getElem?_eq_some_iff.1 HX1.out).1)
          have HM2 := hid (HM1.out.on HBq.out)
          have HBB2 := hid (Nat.le_trans HBB1.out HBq.out.size)
          have HB2 : Hid (Below w.heap.size w w2) := hid (HB1.out.trans (HBq.out.mono HB1.out.size))
          clear HH1 HX1 HM1 HBB1 HBq
          have hA := (HH2.out.ea _ p x HG.out).2
          obtain ⟨sc, hsc⟩ : ∃ z, z = x.c.same m.m.c := ⟨_, rfl⟩
          have q1 := fun W => neqC hsc.symm W
          have q2 := fun W => guardC .neq (.tmp 45) (.tmp 47) x.c m.m.c W
          have HSC := hid hsc
          clear hsc
          have d0 : w2.cell? ⟨w.heap.size, 4, none⟩ = some (.int .i64 m.m.c.i) := OM.cell (m := m.m) (j := 4) HX2.out rfl
          have d1 : w2.cell? ⟨w.heap.size, 5, none⟩ = some (.int .i64 m.m.c.k) := OM.cell (m := m.m) (j := 5) HX2.out rfl
          have d2 : w2.cell? ⟨w.heap.size, 6, none⟩ = some (.int .i64 m.m.c.s) := OM.cell (m := m.m) (j := 6) HX2.out rfl
          have d3 : w2.cell? ⟨w.heap.size, 7, none⟩ = some (.int .i64 m.m.c.t) := OM.cell (m := m.m) (j := 7) HX2.out rfl
          have d4 : w2.cell? ⟨w.heap.size, 8, none⟩ = some (.int .i64 m.m.c.d) := OM.cell (m := m.m) (j := 8) HX2.out rfl
          have d5 : w2.cell? ⟨w.heap.size, 9, none⟩ = some (.int .i64 m.m.c.p) := OM.cell (m := m.m) (j := 9) HX2.out rfl
          have d6 : w2.cell? ⟨w.heap.size, 10, none⟩ = some (.int .i64 m.m.c.q) := OM.cell (m := m.m) (j := 10) HX2.out rfl
          have e0 : w2.cell? ⟨p, 0, none⟩ = some (.int .i64 x.c.i) := hA.ob.cell rfl
          have e1 : w2.cell? ⟨p, 1, none⟩ = some (.int .i64 x.c.k) := hA.ob.cell rfl
          have e2 : w2.cell? ⟨p, 2, none⟩ = some (.int .i64 x.c.s) := hA.ob.cell rfl
          have e3 : w2.cell? ⟨p, 3, none⟩ = some (.int .i64 x.c.t) := hA.ob.cell rfl
          have e4 : w2.cell? ⟨p, 4, none⟩ = some (.int .i64 x.c.d) := hA.ob.cell rfl
          have e5 : w2.cell? ⟨p, 5, none⟩ = some (.int .i64 x.c.p) := hA.ob.cell rfl
          have e6 : w2.cell? ⟨p, 6, none⟩ = some (.int .i64 x.c.q) := hA.ob.cell rfl
          go_upto_region 4 with fail
          rcases sc with _ | _
          · as_aux_lemma =>
              go_quiet (fail)
              rename_i nq
              have HBq : Hid (Below w2.heap.size w2 (w2.drewN nq)) := hid (Below.drewL (Below.refl _ w2) nq)
              generalize w2.drewN nq = w3 at HBq ⊢
              go_wp2_with fail
              go_ret
              rw [HR.out, handF_other HGL.out HSC.out.symm]
              exact LdP.still HH0.out (HB2.out.trans (HBq.out.mono HB2.out.size))
          · go_quiet (fail)
            rename_i nq
            have HBq : Hid (Below w2.heap.size w2 (w2.drewN nq)) := hid (Below.drewL (Below.refl _ w2) nq)
            generalize w2.drewN nq = w3 at HBq ⊢
            clear q1 q2 d0 e0 d1 e1 d2 e2 d3 e3 d4 e4 d5 e5 d6 e6
            have HRG : Hid (R = (g.lst.put m.an.c.i (replyF nd N x.att m.an).1, (replyF nd N x.att m.an).2)) := hid (HR.out.trans (handF_go HGO.out HGL.out HSC.out.symm))
            have HH3 := hid (HH2.out.on HBq.out)
            have HX3 : Hid (OM w3 w.heap.size m.m) := hid (heapB HX2.out HBq.out (Array.getElem?_eq_some_iff.1 HX2.out).1)
            have HM3 := hid (HM2.out.on HBq.out)
            have HBB3 := hid (Nat.le_trans HBB2.out HBq.out.size)
            have HB3 : Hid (Below w.heap.size w w3) := hid (HB2.out.trans (HBq.out.mono HB2.out.size))
            clear HH2 HX2 HM2 HBB2 HBq hA HB1 HB2
            have hA := (HH3.out.ea _ p x HG.out).2
            have hzx := HZ.out _ p x HG.out
            have HA := hid hA
            have HZX := hid hzx
            clear hA hzx
            obtain ⟨m0, m1, m2, m3, m4⟩ := HF.out _ HX3.out
            go_upto_region 6 with fail
            by_cases h7 : so = 7
            · as_aux_lemma =>
                have hb7 : (so == 7) = true := by simp [h7]
                have hca := cFinish HH3.out.lq HA.out HNN.out HBB3.out HZX.out.wf (vt := m.m.vt) HM3.out.1 HMS.out.1
                have HRF : Hid (replyF nd N x.att m.an = finF nd N x.att m.m.vt m.v) := hid (by unfold replyF; rw [if_pos (show m.an.so = 7 from HSO.out.symm.trans h7)]; rfl)
                clear h7
                go_wp2_with (first
                  | ((with_reducible refine loadVl (x := ?vx101) (b := w.heap.size) (o := 11) m.m.vt m.m.vp ?vg101 ?vo101 ?vxx101 ?vc101 ?_); (case vg101 => rfl); (case vo101 => rfl); (case vxx101 => rfl); (case vc101 => exact OM.vV HX3.out))
                  | (go_at_call 29; refine hca.mono ?_; intro e w6 h2; have H2 := hid h2; obtain ⟨v, ls, rfl, h3⟩ := h2; have H3 := hid h3; clear h3 hca)
                  | fail)
                go_ret
                rw [HRG.out]
                have h9 := (HH3.out.act HG.out H2.out (fun a ha => reply_c (m := m.an) a (by rw [HRF.out]; exact ha))).from HB3.out
                rw [show m.an.c.i = m.m.c.i from rfl, HRF.out]
                exact h9
            · have hb7 : (so == 7) = false := by simpa using h7
              obtain ⟨xb, hxb⟩ : ∃ z, z = x.bal := ⟨_, rfl⟩
              have HXB := hid hxb
              clear hxb
              have H7 : Hid (m.an.so ≠ 7) := hid (fun h => h7 (HSO.out.trans h))
              by_cases h6 : mb = xb
              · by_cases h8 : hasF x.att m.an = true
                · as_aux_lemma =>
                    have hbb : (mb != xb) = false := by simp [h6]
                    clear h7
                    go_upto_region 8 with fail
                    clear m0 m1 m2 m3 m4
                    refine rh_start (S := fun W => Below w3.heap.size w3 W) (n := 12) (listed := #[false, false, false, false, false, false, false, false, false, false, false, false]) (by kernel_rfl) rfl rfl ?_
                    have HS3 : Hid (Below w3.heap.size w3 w3.drew) := hid (belowDrew (Below.refl _ w3))
                    have HXW : Hid (∀ W, Below w3.heap.size w3 W → OM W w.heap.size m.m) := hid (fun W hW => heapB HX3.out hW (Array.getElem?_eq_some_iff.1 HX3.out).1)
                    have HPW : Hid (∀ W, Below w3.heap.size w3 W → W.cell? ⟨p, 7, none⟩ = some (.int .i64 xb)) := hid (fun W hW => by rw [HXB.out]; exact (HA.out.on hW).cells.1)
                    have hhs := cHasA (HA.out.on HS3.out) (by have := HZX.out.len; omega) m
                    generalize w3.drew = wd at HS3 hhs ⊢
                    refine tkS 0 ?o114 ?v114 ?l114 ?a114 ?hi114 ?hq114 ?hl114 ?hw114 ?hv114 ?ha114 HS3.out ?hh114
                    case hi114 => (simp only [List.getElem?_toArray, List.getElem?_cons_zero]; try rfl)
                    case hq114 => exact fun _ _ _ h => h
                    case hl114 => (simp only [List.setIfInBounds_toArray, List.set_cons_zero]; try rfl)
                    case hw114 => rfl
                    case hv114 =>
                      intro W hW
                      go_simp
                      try with_reducible rfl
                    case ha114 => (simp only [Act.put,gD,gE,gF]; try rfl)
                    refine tkS 1 ?o115 ?v115 ?l115 ?a115 ?hi115 ?hq115 ?hl115 ?hw115 ?hv115 ?ha115 HS3.out ?hh115
                    case hi115 => (simp only [gA,gB,gC]; try rfl)
                    case hq115 => exact fun _ _ _ h => h
                    case hl115 => (simp only [gD,gE,gF]; try rfl)
                    case hw115 => rfl
                    case hv115 =>
                      intro W hW
                      obtain ⟨m0, m1, m2, m3, m4⟩ := HF.out W (HXW.out W hW); have k7 := HPW.out W hW
                      go_simp
                      try with_reducible rfl
                    case ha115 => (simp only [Act.put,gD,gE,gF]; try rfl)
                    refine tkS 2 ?o116 ?v116 ?l116 ?a116 ?hi116 ?hq116 ?hl116 ?hw116 ?hv116 ?ha116 HS3.out ?hh116
                    case hi116 => (simp only [gA,gB,gC]; try rfl)
                    case hq116 => exact fun _ _ _ h => h
                    case hl116 => (simp only [gD,gE,gF]; try rfl)
                    case hw116 => rfl
                    case hv116 =>
                      intro W hW
                      go_simp
                      try with_reducible rfl
                    case ha116 => (simp only [Act.put,gD,gE,gF]; try rfl)
                    refine tkS 3 ?o117 ?v117 ?l117 ?a117 ?hi117 ?hq117 ?hl117 ?hw117 ?hv117 ?ha117 HS3.out ?hh117
                    case hi117 => (simp only [gA,gB,gC]; try rfl)
                    case hq117 => exact fun _ _ _ h => h
                    case hl117 => (simp only [gD,gE,gF]; try rfl)
                    case hw117 => rfl
                    case hv117 =>
                      intro W hW
                      go_simp
                      try with_reducible rfl
                    case ha117 => (simp only [Act.put,gD,gE,gF]; try rfl)
                    refine tkS 4 ?o118 ?v118 ?l118 ?a118 ?hi118 ?hq118 ?hl118 ?hw118 ?hv118 ?ha118 HS3.out ?hh118
                    case hi118 => (simp only [gA,gB,gC]; try rfl)
                    case hq118 => exact fun _ _ _ h => h
                    case hl118 => (simp only [gD,gE,gF]; try rfl)
                    case hw118 => rfl
                    case hv118 =>
                      intro W hW
                      go_simp
                      try with_reducible rfl
                    case ha118 => (simp only [Act.put,gD,gE,gF]; try rfl)
                    refine tkS 5 ?o119 ?v119 ?l119 ?a119 ?hi119 ?hq119 ?hl119 ?hw119 ?hv119 ?ha119 HS3.out ?hh119
                    case hi119 => (simp only [gA,gB,gC]; try rfl)
                    case hq119 => exact fun _ _ _ h => h
                    case hl119 => (simp only [gD,gE,gF]; try rfl)
                    case hw119 => rfl
                    case hv119 =>
                      intro W hW
                      obtain ⟨m0, m1, m2, m3, m4⟩ := HF.out W (HXW.out W hW); have k7 := HPW.out W hW
                      go_simp
                      try with_reducible rfl
                    case ha119 => (simp only [Act.put,gD,gE,gF]; try rfl)
                    refine tkS 6 ?o120 ?v120 ?l120 ?a120 ?hi120 ?hq120 ?hl120 ?hw120 ?hv120 ?ha120 HS3.out ?hh120
                    case hi120 => (simp only [gA,gB,gC]; try rfl)
                    case hq120 => exact fun _ _ _ h => h
                    case hl120 => (simp only [gD,gE,gF]; try rfl)
                    case hw120 => rfl
                    case hv120 =>
                      intro W hW
                      go_simp
                      try with_reducible rfl
                    case ha120 => (simp only [Act.put,gD,gE,gF]; try rfl)
                    refine tkS 7 ?o121 ?v121 ?l121 ?a121 ?hi121 ?hq121 ?hl121 ?hw121 ?hv121 ?ha121 HS3.out ?hh121
                    case hi121 => (simp only [gA,gB,gC]; try rfl)
                    case hq121 => exact fun _ _ _ h => h
                    case hl121 => (simp only [gD,gE,gF]; try rfl)
                    case hw121 => rfl
                    case hv121 =>
                      intro W hW
                      go_simp
                      try with_reducible rfl
                    case ha121 => (simp only [Act.put,gD,gE,gF]; try rfl)
                    refine tkS 8 ?o122 ?v122 ?l122 ?a122 ?hi122 ?hq122 ?hl122 ?hw122 ?hv122 ?ha122 HS3.out ?hh122
                    case hi122 => (simp only [gA,gB,gC]; try rfl)
                    case hq122 => exact fun _ _ _ h => h
                    case hl122 => (simp only [gD,gE,gF]; try rfl)
                    case hw122 => rfl
                    case hv122 =>
                      intro W hW
                      go_simp
                      try with_reducible rfl
                    case ha122 => (simp only [Act.put,gD,gE,gF]; try rfl)
                    refine rh_loadW (i := 9) (o := ?o123) (cs := m.m.list) (T := 48) (x := ?x123) (b := ?b123) (q := ?q123) (listed' := ?l123) (a' := ?a123) ?hi123 (by kernel_rfl) (by kernel_rfl) (by kernel_rfl) ?hq123 ?hl123 ?hg123 ?ho123 ?hx123 ?hc123 Tryz.underlying48 rfl (infoM m.m) ?ha123 HS3.out ?hh123
                    case hi123 => (simp only [gA,gB,gC]; try rfl)
                    case hq123 => exact fun _ _ _ h => h
                    case hl123 => (simp only [gD,gE,gF]; try rfl)
                    case hg123 => rfl
                    case ho123 => rfl
                    case hx123 => rfl
                    case hc123 => exact fun W hW => (HXW.out W hW).range
                    case ha123 => (show Act.put _ _ (Value.agg m.m.arr) = _); (simp only [Act.put,gD,gE,gF]; try rfl)
                    rw [show hasF x.att m.an = true from h8] at hhs
                    refine wpAnyH_ready (rs := [10]) (by kernel_rfl) (by simp) ?_
                    refine rh_consW (i := 10) (o := ?o124) (listed' := ?l124) ?hi124 ?hl124 ?hg124 ?hh124 ?hs124
                    case hi124 => (simp only [gA,gB,gC]; try rfl)
                    case hl124 => (simp only [gD,gE,gF]; try rfl)
                    case hg124 => rfl
                    case hs124 => exact AllReadyH.nil
                    intro K hK
                    go_simp
                    refine hhs.mono ?_
                    rintro z w4 ⟨rfl, hb⟩
                    have HS4 := hid (HS3.out.trans (hb.mono HS3.out.size))
                    clear hb hhs
                    refine hK.out _ _ HS4.out ?_
                    clear hK K
                    refine tkS 11 ?o125 ?v125 ?l125 ?a125 ?hi125 ?hq125 ?hl125 ?hw125 ?hv125 ?ha125 HS4.out ?hh125
                    case hi125 => (simp only [gA,gB,gC]; try rfl)
                    case hq125 => exact fun _ _ _ h => h
                    case hl125 => (simp only [gD,gE,gF]; try rfl)
                    case hw125 => rfl
                    case hv125 =>
                      intro W hW
                      go_simp
                      try with_reducible rfl
                    case ha125 => (simp only [Act.put,gD,gE,gF]; try rfl)
                    refine wpAnyH_done (by kernel_rfl) ?_ _
                    go_wp2_with fail
                    go_ret
                    rw [HRG.out]
                    rw [show replyF nd N x.att m.an = (some x.att, []) by unfold replyF; rw [if_neg H7.out, if_pos (.inr h8)]]
                    rw [show (g.lst.put m.an.c.i (some x.att, ([] : List An)).1, (some x.att, ([] : List An)).2) = (g.lst, []) by rw [show (some x.att, ([] : List An)).1 = some x.att from rfl, ← HGL.out, Lst.put_same]]
                    exact LdP.still HH0.out (HB3.out.trans (HS4.out.mono HB3.out.size))
                · have hbb : (mb != xb) = false := by simp [h6]
                  go_upto_region 8 with fail
                  clear m0 m1 m2 m3 m4
                  refine rh_start (S := fun W => Below w3.heap.size w3 W) (n := 12) (listed := #[false, false, false, false, false, false, false, false, false, false, false, false]) (by kernel_rfl) rfl rfl ?_
                  have HS3 : Hid (Below w3.heap.size w3 w3.drew) := hid (belowDrew (Below.refl _ w3))
                  have HXW : Hid (∀ W, Below w3.heap.size w3 W → OM W w.heap.size m.m) := hid (fun W hW => heapB HX3.out hW (Array.getElem?_eq_some_iff.1 HX3.out).1)
                  have HPW : Hid (∀ W, Below w3.heap.size w3 W → W.cell? ⟨p, 7, none⟩ = some (.int .i64 xb)) := hid (fun W hW => by rw [HXB.out]; exact (HA.out.on hW).cells.1)
                  have hhs := cHasA (HA.out.on HS3.out) (by have := HZX.out.len; omega) m
                  generalize w3.drew = wd at HS3 hhs ⊢
                  refine tkS 0 ?o126 ?v126 ?l126 ?a126 ?hi126 ?hq126 ?hl126 ?hw126 ?hv126 ?ha126 HS3.out ?hh126
                  case hi126 => (simp only [List.getElem?_toArray, List.getElem?_cons_zero]; try rfl)
                  case hq126 => exact fun _ _ _ h => h
                  case hl126 => (simp only [List.setIfInBounds_toArray, List.set_cons_zero]; try rfl)
                  case hw126 => rfl
                  case hv126 =>
                    intro W hW
                    go_simp
                    try with_reducible rfl
                  case ha126 => (simp only [Act.put,gD,gE,gF]; try rfl)
                  refine tkS 1 ?o127 ?v127 ?l127 ?a127 ?hi127 ?hq127 ?hl127 ?hw127 ?hv127 ?ha127 HS3.out ?hh127
                  case hi127 => (simp only [gA,gB,gC]; try rfl)
                  case hq127 => exact fun _ _ _ h => h
                  case hl127 => (simp only [gD,gE,gF]; try rfl)
                  case hw127 => rfl
                  case hv127 =>
                    intro W hW
                    obtain ⟨m0, m1, m2, m3, m4⟩ := HF.out W (HXW.out W hW); have k7 := HPW.out W hW
                    go_simp
                    try with_reducible rfl
                  case ha127 => (simp only [Act.put,gD,gE,gF]; try rfl)
                  refine tkS 2 ?o128 ?v128 ?l128 ?a128 ?hi128 ?hq128 ?hl128 ?hw128 ?hv128 ?ha128 HS3.out ?hh128
                  case hi128 => (simp only [gA,gB,gC]; try rfl)
                  case hq128 => exact fun _ _ _ h => h
                  case hl128 => (simp only [gD,gE,gF]; try rfl)
                  case hw128 => rfl
                  case hv128 =>
                    intro W hW
                    go_simp
                    try with_reducible rfl
                  case ha128 => (simp only [Act.put,gD,gE,gF]; try rfl)
                  refine tkS 3 ?o129 ?v129 ?l129 ?a129 ?hi129 ?hq129 ?hl129 ?hw129 ?hv129 ?ha129 HS3.out ?hh129
                  case hi129 => (simp only [gA,gB,gC]; try rfl)
                  case hq129 => exact fun _ _ _ h => h
                  case hl129 => (simp only [gD,gE,gF]; try rfl)
                  case hw129 => rfl
                  case hv129 =>
                    intro W hW
                    go_simp
                    try with_reducible rfl
                  case ha129 => (simp only [Act.put,gD,gE,gF]; try rfl)
                  refine tkS 4 ?o130 ?v130 ?l130 ?a130 ?hi130 ?hq130 ?hl130 ?hw130 ?hv130 ?ha130 HS3.out ?hh130
                  case hi130 => (simp only [gA,gB,gC]; try rfl)
                  case hq130 => exact fun _ _ _ h => h
                  case hl130 => (simp only [gD,gE,gF]; try rfl)
                  case hw130 => rfl
                  case hv130 =>
                    intro W hW
                    go_simp
                    try with_reducible rfl
                  case ha130 => (simp only [Act.put,gD,gE,gF]; try rfl)
                  refine tkS 5 ?o131 ?v131 ?l131 ?a131 ?hi131 ?hq131 ?hl131 ?hw131 ?hv131 ?ha131 HS3.out ?hh131
                  case hi131 => (simp only [gA,gB,gC]; try rfl)
                  case hq131 => exact fun _ _ _ h => h
                  case hl131 => (simp only [gD,gE,gF]; try rfl)
                  case hw131 => rfl
                  case hv131 =>
                    intro W hW
                    obtain ⟨m0, m1, m2, m3, m4⟩ := HF.out W (HXW.out W hW); have k7 := HPW.out W hW
                    go_simp
                    try with_reducible rfl
                  case ha131 => (simp only [Act.put,gD,gE,gF]; try rfl)
                  refine tkS 6 ?o132 ?v132 ?l132 ?a132 ?hi132 ?hq132 ?hl132 ?hw132 ?hv132 ?ha132 HS3.out ?hh132
                  case hi132 => (simp only [gA,gB,gC]; try rfl)
                  case hq132 => exact fun _ _ _ h => h
                  case hl132 => (simp only [gD,gE,gF]; try rfl)
                  case hw132 => rfl
                  case hv132 =>
                    intro W hW
                    go_simp
                    try with_reducible rfl
                  case ha132 => (simp only [Act.put,gD,gE,gF]; try rfl)
                  refine tkS 7 ?o133 ?v133 ?l133 ?a133 ?hi133 ?hq133 ?hl133 ?hw133 ?hv133 ?ha133 HS3.out ?hh133
                  case hi133 => (simp only [gA,gB,gC]; try rfl)
                  case hq133 => exact fun _ _ _ h => h
                  case hl133 => (simp only [gD,gE,gF]; try rfl)
                  case hw133 => rfl
                  case hv133 =>
                    intro W hW
                    go_simp
                    try with_reducible rfl
                  case ha133 => (simp only [Act.put,gD,gE,gF]; try rfl)
                  refine tkS 8 ?o134 ?v134 ?l134 ?a134 ?hi134 ?hq134 ?hl134 ?hw134 ?hv134 ?ha134 HS3.out ?hh134
                  case hi134 => (simp only [gA,gB,gC]; try rfl)
                  case hq134 => exact fun _ _ _ h => h
                  case hl134 => (simp only [gD,gE,gF]; try rfl)
                  case hw134 => rfl
                  case hv134 =>
                    intro W hW
                    go_simp
                    try with_reducible rfl
                  case ha134 => (simp only [Act.put,gD,gE,gF]; try rfl)
                  refine rh_loadW (i := 9) (o := ?o135) (cs := m.m.list) (T := 48) (x := ?x135) (b := ?b135) (q := ?q135) (listed' := ?l135) (a' := ?a135) ?hi135 (by kernel_rfl) (by kernel_rfl) (by kernel_rfl) ?hq135 ?hl135 ?hg135 ?ho135 ?hx135 ?hc135 Tryz.underlying48 rfl (infoM m.m) ?ha135 HS3.out ?hh135
                  case hi135 => (simp only [gA,gB,gC]; try rfl)
                  case hq135 => exact fun _ _ _ h => h
                  case hl135 => (simp only [gD,gE,gF]; try rfl)
                  case hg135 => rfl
                  case ho135 => rfl
                  case hx135 => rfl
                  case hc135 => exact fun W hW => (HXW.out W hW).range
                  case ha135 => (show Act.put _ _ (Value.agg m.m.arr) = _); (simp only [Act.put,gD,gE,gF]; try rfl)
                  rw [show hasF x.att m.an = false from (Bool.eq_false_iff.2 h8)] at hhs
                  refine wpAnyH_ready (rs := [10]) (by kernel_rfl) (by simp) ?_
                  refine rh_consW (i := 10) (o := ?o136) (listed' := ?l136) ?hi136 ?hl136 ?hg136 ?hh136 ?hs136
                  case hi136 => (simp only [gA,gB,gC]; try rfl)
                  case hl136 => (simp only [gD,gE,gF]; try rfl)
                  case hg136 => rfl
                  case hs136 => exact AllReadyH.nil
                  intro K hK
                  go_simp
                  refine hhs.mono ?_
                  rintro z w4 ⟨rfl, hb⟩
                  have HS4 := hid (HS3.out.trans (hb.mono HS3.out.size))
                  clear hb hhs
                  refine hK.out _ _ HS4.out ?_
                  clear hK K
                  refine tkS 11 ?o137 ?v137 ?l137 ?a137 ?hi137 ?hq137 ?hl137 ?hw137 ?hv137 ?ha137 HS4.out ?hh137
                  case hi137 => (simp only [gA,gB,gC]; try rfl)
                  case hq137 => exact fun _ _ _ h => h
                  case hl137 => (simp only [gD,gE,gF]; try rfl)
                  case hw137 => rfl
                  case hv137 =>
                    intro W hW
                    go_simp
                    try with_reducible rfl
                  case ha137 => (simp only [Act.put,gD,gE,gF]; try rfl)
                  refine wpAnyH_done (by kernel_rfl) ?_ _
                  have HN8 : Hid (¬ (m.an.bal ≠ x.att.bal ∨ hasF x.att m.an = true)) := hid (fun h => by rcases h with h | h; exact h (HMB.out.symm.trans (h6.trans HXB.out)); exact h8 h)
                  have HH4 := hid (HH3.out.on HS4.out)
                  have HX4 : Hid (OM w4 w.heap.size m.m) := hid (HXW.out _ HS4.out)
                  have HM4 := hid (HM3.out.on HS4.out)
                  have HBB4 := hid (Nat.le_trans HBB3.out HS4.out.size)
                  have HB4 : Hid (Below w.heap.size w w4) := hid (HB3.out.trans (HS4.out.mono HB3.out.size))
                  have HA4 := hid (HA.out.on HS4.out)
                  clear HH3 HX3 HM3 HBB3 HB3 HA HXW HPW HS3 HS4 h6 h8 h7 hb7 hbb
                  obtain ⟨n0, n1, n2, n3, n4⟩ := HF.out _ HX4.out
                  clear n1 n2 n3 n4
                  go_upto_region 10 with fail
                  have HU : Hid (replyF nd N x.att m.an = if m.an.so = 1 ∨ m.an.so = 2 then voteF nd N x.att m.an else if m.an.so = 4 then promiseF nd N x.att m.an else if m.an.so = 6 then acceptedF nd N x.att m.an else if m.an.so = 8 then (none, []) else (some x.att, [])) := hid (by unfold replyF; rw [if_neg H7.out, if_neg HN8.out])
                  rw [show m.an.so = so from HSO.out.symm] at HU
                  by_cases s1 : so = 1 ∨ so = 2
                  · rcases s1 with s1 | s2
                    · as_aux_lemma =>
                        subst s1
                        have HUU := hid (HU.out.trans (if_pos (.inl rfl)))
                        have hca := cVote HH4.out.lq HA4.out HNN.out HBB4.out HZX.out HM4.out.at HMS.out
                        clear HU
                        go_wp2_with (first
                          | ((with_reducible refine loadM (x := ?lx138) (b := w.heap.size) (m.m) ?lg138 ?lo138 ?lxx138 ?lc138 ?lh138); (case lg138 => rfl); (case lo138 => rfl); (case lxx138 => rfl); (case lc138 => exact HX4.out))
                          | (go_at_call 31; refine hca.mono ?_; intro e w6 h2; have H2 := hid h2; obtain ⟨v, ls, rfl, h3⟩ := h2; have H3 := hid h3; clear h3 hca)
                          | fail)
                        go_ret
                        rw [HRG.out]
                        have h9 := (HH4.out.act HG.out H2.out (fun a ha => reply_c (m := m.an) a (by rw [HUU.out]; exact ha))).from HB4.out
                        rw [show m.an.c.i = m.m.c.i from rfl, HUU.out]
                        exact h9
                    · as_aux_lemma =>
                        subst s2
                        have HUU := hid (HU.out.trans (if_pos (.inr rfl)))
                        have hca := cVote HH4.out.lq HA4.out HNN.out HBB4.out HZX.out HM4.out.at HMS.out
                        clear HU
                        go_wp2_with (first
                          | ((with_reducible refine loadM (x := ?lx139) (b := w.heap.size) (m.m) ?lg139 ?lo139 ?lxx139 ?lc139 ?lh139); (case lg139 => rfl); (case lo139 => rfl); (case lxx139 => rfl); (case lc139 => exact HX4.out))
                          | (go_at_call 31; refine hca.mono ?_; intro e w6 h2; have H2 := hid h2; obtain ⟨v, ls, rfl, h3⟩ := h2; have H3 := hid h3; clear h3 hca)
                          | fail)
                        go_ret
                        rw [HRG.out]
                        have h9 := (HH4.out.act HG.out H2.out (fun a ha => reply_c (m := m.an) a (by rw [HUU.out]; exact ha))).from HB4.out
                        rw [show m.an.c.i = m.m.c.i from rfl, HUU.out]
                        exact h9
                  · by_cases s4 : so = 4
                    · as_aux_lemma =>
                        subst s4
                        have HUU := hid (HU.out.trans ((if_neg (by decide)).trans (if_pos rfl)))
                        have hca := cPromise HH4.out.lq HA4.out HNN.out HBB4.out HZX.out HM4.out.at HMS.out
                        clear HU
                        go_wp2_with (first
                          | ((with_reducible refine loadM (x := ?lx140) (b := w.heap.size) (m.m) ?lg140 ?lo140 ?lxx140 ?lc140 ?lh140); (case lg140 => rfl); (case lo140 => rfl); (case lxx140 => rfl); (case lc140 => exact HX4.out))
                          | (go_at_call 32; refine hca.mono ?_; intro e w6 h2; have H2 := hid h2; obtain ⟨v, ls, rfl, h3⟩ := h2; have H3 := hid h3; clear h3 hca)
                          | fail)
                        go_ret
                        rw [HRG.out]
                        have h9 := (HH4.out.act HG.out H2.out (fun a ha => reply_c (m := m.an) a (by rw [HUU.out]; exact ha))).from HB4.out
                        rw [show m.an.c.i = m.m.c.i from rfl, HUU.out]
                        exact h9
                    · by_cases s6 : so = 6
                      · as_aux_lemma =>
                          subst s6
                          have HUU := hid (HU.out.trans ((if_neg (by decide)).trans ((if_neg (by decide)).trans (if_pos rfl))))
                          have hca := cAcc16 HH4.out.lq HA4.out HNN.out HBB4.out HZX.out HM4.out.at HMS.out
                          clear HU
                          go_wp2_with (first
                            | ((with_reducible refine loadM (x := ?lx141) (b := w.heap.size) (m.m) ?lg141 ?lo141 ?lxx141 ?lc141 ?lh141); (case lg141 => rfl); (case lo141 => rfl); (case lxx141 => rfl); (case lc141 => exact HX4.out))
                            | (go_at_call 33; refine hca.mono ?_; intro e w6 h2; have H2 := hid h2; obtain ⟨v, ls, rfl, h3⟩ := h2; have H3 := hid h3; clear h3 hca)
                            | fail)
                          go_ret
                          rw [HRG.out]
                          have h9 := (HH4.out.act HG.out H2.out (fun a ha => reply_c (m := m.an) a (by rw [HUU.out]; exact ha))).from HB4.out
                          rw [show m.an.c.i = m.m.c.i from rfl, HUU.out]
                          exact h9
                      · by_cases s8 : so = 8
                        · as_aux_lemma =>
                            subst s8
                            have HUU := hid (HU.out.trans ((if_neg (by decide)).trans ((if_neg (by decide)).trans ((if_neg (by decide)).trans (if_pos rfl)))))
                            have hca := cLeaveA HH4.out.lq HA4.out HZX.out.wf
                            clear HU
                            go_wp2_with (first
                              | (go_at_call 34; refine hca.mono ?_; intro e w6 h2; have H2 := hid h2; obtain ⟨v, ls, rfl, h3⟩ := h2; have H3 := hid h3; clear h3 hca)
                              | fail)
                            go_ret
                            rw [HRG.out]
                            have h9 := (HH4.out.act HG.out H2.out (fun a ha => reply_c (m := m.an) a (by rw [HUU.out]; exact ha))).from HB4.out
                            rw [show m.an.c.i = m.m.c.i from rfl, HUU.out]
                            exact h9
                        · as_aux_lemma =>
                            have hs1 : (so == 1) = false := by simpa using fun h => s1 (.inl h)
                            have hs2 : (so == 2) = false := by simpa using fun h => s1 (.inr h)
                            have hs4 : (so == 4) = false := by simpa using s4
                            have hs6 : (so == 6) = false := by simpa using s6
                            have hs8 : (so == 8) = false := by simpa using s8
                            have HUU := hid (HU.out.trans ((if_neg s1).trans ((if_neg s4).trans ((if_neg s6).trans (if_neg s8)))))
                            clear HU s1 s4 s6 s8
                            go_wp2_with fail
                            go_ret
                            rw [HRG.out]
                            rw [HUU.out]
                            rw [show (g.lst.put m.an.c.i (some x.att, ([] : List An)).1, (some x.att, ([] : List An)).2) = (g.lst, []) by rw [show (some x.att, ([] : List An)).1 = some x.att from rfl, ← HGL.out, Lst.put_same]]
                            exact LdP.still HH0.out HB4.out
              · as_aux_lemma =>
                  have hbb : (mb != xb) = true := by simpa using h6
                  clear h7
                  go_upto_region 8 with fail
                  clear m0 m1 m2 m3 m4
                  refine rh_start (S := fun W => Below w3.heap.size w3 W) (n := 12) (listed := #[false, false, false, false, false, false, false, false, false, false, false, false]) (by kernel_rfl) rfl rfl ?_
                  have HS3 : Hid (Below w3.heap.size w3 w3.drew) := hid (belowDrew (Below.refl _ w3))
                  have HXW : Hid (∀ W, Below w3.heap.size w3 W → OM W w.heap.size m.m) := hid (fun W hW => heapB HX3.out hW (Array.getElem?_eq_some_iff.1 HX3.out).1)
                  have HPW : Hid (∀ W, Below w3.heap.size w3 W → W.cell? ⟨p, 7, none⟩ = some (.int .i64 xb)) := hid (fun W hW => by rw [HXB.out]; exact (HA.out.on hW).cells.1)
                  have hhs := cHasA (HA.out.on HS3.out) (by have := HZX.out.len; omega) m
                  generalize w3.drew = w4 at HS3 hhs ⊢
                  refine tkS 0 ?o102 ?v102 ?l102 ?a102 ?hi102 ?hq102 ?hl102 ?hw102 ?hv102 ?ha102 HS3.out ?hh102
                  case hi102 => (simp only [List.getElem?_toArray, List.getElem?_cons_zero]; try rfl)
                  case hq102 => exact fun _ _ _ h => h
                  case hl102 => (simp only [List.setIfInBounds_toArray, List.set_cons_zero]; try rfl)
                  case hw102 => rfl
                  case hv102 =>
                    intro W hW
                    go_simp
                    try with_reducible rfl
                  case ha102 => (simp only [Act.put,gD,gE,gF]; try rfl)
                  refine tkS 1 ?o103 ?v103 ?l103 ?a103 ?hi103 ?hq103 ?hl103 ?hw103 ?hv103 ?ha103 HS3.out ?hh103
                  case hi103 => (simp only [gA,gB,gC]; try rfl)
                  case hq103 => exact fun _ _ _ h => h
                  case hl103 => (simp only [gD,gE,gF]; try rfl)
                  case hw103 => rfl
                  case hv103 =>
                    intro W hW
                    obtain ⟨m0, m1, m2, m3, m4⟩ := HF.out W (HXW.out W hW); have k7 := HPW.out W hW
                    go_simp
                    try with_reducible rfl
                  case ha103 => (simp only [Act.put,gD,gE,gF]; try rfl)
                  refine tkS 2 ?o104 ?v104 ?l104 ?a104 ?hi104 ?hq104 ?hl104 ?hw104 ?hv104 ?ha104 HS3.out ?hh104
                  case hi104 => (simp only [gA,gB,gC]; try rfl)
                  case hq104 => exact fun _ _ _ h => h
                  case hl104 => (simp only [gD,gE,gF]; try rfl)
                  case hw104 => rfl
                  case hv104 =>
                    intro W hW
                    go_simp
                    try with_reducible rfl
                  case ha104 => (simp only [Act.put,gD,gE,gF]; try rfl)
                  refine tkS 3 ?o105 ?v105 ?l105 ?a105 ?hi105 ?hq105 ?hl105 ?hw105 ?hv105 ?ha105 HS3.out ?hh105
                  case hi105 => (simp only [gA,gB,gC]; try rfl)
                  case hq105 => exact fun _ _ _ h => h
                  case hl105 => (simp only [gD,gE,gF]; try rfl)
                  case hw105 => rfl
                  case hv105 =>
                    intro W hW
                    go_simp
                    try with_reducible rfl
                  case ha105 => (simp only [Act.put,gD,gE,gF]; try rfl)
                  refine tkS 4 ?o106 ?v106 ?l106 ?a106 ?hi106 ?hq106 ?hl106 ?hw106 ?hv106 ?ha106 HS3.out ?hh106
                  case hi106 => (simp only [gA,gB,gC]; try rfl)
                  case hq106 => exact fun _ _ _ h => h
                  case hl106 => (simp only [gD,gE,gF]; try rfl)
                  case hw106 => rfl
                  case hv106 =>
                    intro W hW
                    go_simp
                    try with_reducible rfl
                  case ha106 => (simp only [Act.put,gD,gE,gF]; try rfl)
                  refine tkS 5 ?o107 ?v107 ?l107 ?a107 ?hi107 ?hq107 ?hl107 ?hw107 ?hv107 ?ha107 HS3.out ?hh107
                  case hi107 => (simp only [gA,gB,gC]; try rfl)
                  case hq107 => exact fun _ _ _ h => h
                  case hl107 => (simp only [gD,gE,gF]; try rfl)
                  case hw107 => rfl
                  case hv107 =>
                    intro W hW
                    obtain ⟨m0, m1, m2, m3, m4⟩ := HF.out W (HXW.out W hW); have k7 := HPW.out W hW
                    go_simp
                    try with_reducible rfl
                  case ha107 => (simp only [Act.put,gD,gE,gF]; try rfl)
                  refine tkS 6 ?o108 ?v108 ?l108 ?a108 ?hi108 ?hq108 ?hl108 ?hw108 ?hv108 ?ha108 HS3.out ?hh108
                  case hi108 => (simp only [gA,gB,gC]; try rfl)
                  case hq108 => exact fun _ _ _ h => h
                  case hl108 => (simp only [gD,gE,gF]; try rfl)
                  case hw108 => rfl
                  case hv108 =>
                    intro W hW
                    go_simp
                    try with_reducible rfl
                  case ha108 => (simp only [Act.put,gD,gE,gF]; try rfl)
                  refine tkS 7 ?o109 ?v109 ?l109 ?a109 ?hi109 ?hq109 ?hl109 ?hw109 ?hv109 ?ha109 HS3.out ?hh109
                  case hi109 => (simp only [gA,gB,gC]; try rfl)
                  case hq109 => exact fun _ _ _ h => h
                  case hl109 => (simp only [gD,gE,gF]; try rfl)
                  case hw109 => rfl
                  case hv109 =>
                    intro W hW
                    go_simp
                    try with_reducible rfl
                  case ha109 => (simp only [Act.put,gD,gE,gF]; try rfl)
                  refine tkK 8 ?o110 ?l110 ?a110 ?hi110 ?hq110 ?hl110 ?hw110 ?ha110 HS3.out ?hh110
                  case hi110 => (simp only [gA,gB,gC]; try rfl)
                  case hq110 => exact fun _ _ _ h => h
                  case hl110 => (simp only [gD,gE,gF]; try rfl)
                  case hw110 => rfl
                  case ha110 => (simp only [Act.put,gD,gE,gF]; try rfl)
                  refine tkK 9 ?o111 ?l111 ?a111 ?hi111 ?hq111 ?hl111 ?hw111 ?ha111 HS3.out ?hh111
                  case hi111 => (simp only [gA,gB,gC]; try rfl)
                  case hq111 => exact fun _ _ _ h => h
                  case hl111 => (simp only [gD,gE,gF]; try rfl)
                  case hw111 => rfl
                  case ha111 => (simp only [Act.put,gD,gE,gF]; try rfl)
                  refine tkK 10 ?o112 ?l112 ?a112 ?hi112 ?hq112 ?hl112 ?hw112 ?ha112 HS3.out ?hh112
                  case hi112 => (simp only [gA,gB,gC]; try rfl)
                  case hq112 => exact fun _ _ _ h => h
                  case hl112 => (simp only [gD,gE,gF]; try rfl)
                  case hw112 => rfl
                  case ha112 => (simp only [Act.put,gD,gE,gF]; try rfl)
                  refine tkS 11 ?o113 ?v113 ?l113 ?a113 ?hi113 ?hq113 ?hl113 ?hw113 ?hv113 ?ha113 HS3.out ?hh113
                  case hi113 => (simp only [gA,gB,gC]; try rfl)
                  case hq113 => exact fun _ _ _ h => h
                  case hl113 => (simp only [gD,gE,gF]; try rfl)
                  case hw113 => rfl
                  case hv113 =>
                    intro W hW
                    go_simp
                    try with_reducible rfl
                  case ha113 => (simp only [Act.put,gD,gE,gF]; try rfl)
                  have HS4 := HS3
                  refine wpAnyH_done (by kernel_rfl) ?_ _
                  go_wp2_with fail
                  go_ret
                  rw [HRG.out]
                  rw [show replyF nd N x.att m.an = (some x.att, []) by unfold replyF; rw [if_neg H7.out, if_pos (.inl (fun h => h6 (HMB.out.trans (h.trans HXB.out.symm))))]]
                  rw [show (g.lst.put m.an.c.i (some x.att, ([] : List An)).1, (some x.att, ([] : List An)).2) = (g.lst, []) by rw [show (some x.att, ([] : List An)).1 = some x.att from rfl, ← HGL.out, Lst.put_same]]
                  exact LdP.still HH0.out (HB3.out.trans (HS4.out.mono HB3.out.size))
      · as_aux_lemma =>
          have hbt : (tt != nd) = false := by simp [ht]
          have hbf : decide (N ≤ fr) = true := decide_eq_true (by omega)
          refine rh_start (S := fun W => Below W0.heap.size W0 W) (n := 25) (listed := #[false, false, false, false, false, false, false, false, false, false, false, false, false, false, false, false, false, false, false, false, false, false, false, false, false]) (by kernel_rfl) rfl rfl ?_
          have HS0 : Hid (Below W0.heap.size W0 W0.drew) := hid (belowDrew (Below.refl _ W0))
          have HXW : Hid (∀ W, Below W0.heap.size W0 W → OM W w.heap.size m.m) := hid (fun W hW => heapB HX0.out hW (Array.getElem?_eq_some_iff.1 HX0.out).1)
          have HLW : Hid (∀ W, Below W0.heap.size W0 W → W.cell? ⟨q, 0, none⟩ = some (.int .i64 nd) ∧ W.cell? ⟨q, 1, none⟩ = some (.int .i64 N) ∧ W.cell? ⟨q, 2, none⟩ = some (.map (some b))) := hid (fun W hW => (HH.out.on hW).lq.cells)
          generalize W0.drew = wd at HS0 ⊢
          refine tkS 0 ?o51 ?v51 ?l51 ?a51 ?hi51 ?hq51 ?hl51 ?hw51 ?hv51 ?ha51 HS0.out ?hh51
          case hi51 => (simp only [List.getElem?_toArray, List.getElem?_cons_zero]; try rfl)
          case hq51 => exact fun _ _ _ h => h
          case hl51 => (simp only [List.setIfInBounds_toArray, List.set_cons_zero]; try rfl)
          case hw51 => rfl
          case hv51 =>
            intro W hW
            go_simp
            try with_reducible rfl
          case ha51 => (simp only [Act.put,gD,gE,gF]; try rfl)
          refine tkS 1 ?o52 ?v52 ?l52 ?a52 ?hi52 ?hq52 ?hl52 ?hw52 ?hv52 ?ha52 HS0.out ?hh52
          case hi52 => (simp only [gA,gB,gC]; try rfl)
          case hq52 => exact fun _ _ _ h => h
          case hl52 => (simp only [gD,gE,gF]; try rfl)
          case hw52 => rfl
          case hv52 =>
            intro W hW
            go_simp
            try with_reducible rfl
          case ha52 => (simp only [Act.put,gD,gE,gF]; try rfl)
          refine tkS 2 ?o53 ?v53 ?l53 ?a53 ?hi53 ?hq53 ?hl53 ?hw53 ?hv53 ?ha53 HS0.out ?hh53
          case hi53 => (simp only [gA,gB,gC]; try rfl)
          case hq53 => exact fun _ _ _ h => h
          case hl53 => (simp only [gD,gE,gF]; try rfl)
          case hw53 => rfl
          case hv53 =>
            intro W hW
            go_simp
            try with_reducible rfl
          case ha53 => (simp only [Act.put,gD,gE,gF]; try rfl)
          refine rh_loadW (i := 3) (o := ?o54) (cs := m.m.list) (T := 48) (x := ?x54) (b := ?b54) (q := ?q54) (listed' := ?l54) (a' := ?a54) ?hi54 (by kernel_rfl) (by kernel_rfl) (by kernel_rfl) ?hq54 ?hl54 ?hg54 ?ho54 ?hx54 ?hc54 Tryz.underlying48 rfl (infoM m.m) ?ha54 HS0.out ?hh54
          case hi54 => (simp only [gA,gB,gC]; try rfl)
          case hq54 => exact fun _ _ _ h => h
          case hl54 => (simp only [gD,gE,gF]; try rfl)
          case hg54 => rfl
          case ho54 => rfl
          case hx54 => rfl
          case hc54 => exact fun W hW => (HXW.out W hW).range
          case ha54 => (show Act.put _ _ (Value.agg m.m.arr) = _); (simp only [Act.put,gD,gE,gF]; try rfl)
          refine wpAnyH_ready (rs := [4]) (by kernel_rfl) (by simp) ?_
          refine rh_consW (i := 4) (o := ?o55) (listed' := ?l55) ?hi55 ?hl55 ?hg55 ?hh55 ?hs55
          case hi55 => (simp only [gA,gB,gC]; try rfl)
          case hl55 => (simp only [gD,gE,gF]; try rfl)
          case hg55 => rfl
          case hs55 => exact AllReadyH.nil
          intro K hK
          go_simp
          refine (HCR.out _ (HB0.out.trans (HS0.out.mono HB0.out.size))).mono ?_
          rintro z w1 ⟨rfl, hb⟩
          have HS1 : Hid (Below W0.heap.size W0 w1) := hid (HS0.out.trans (hb.mono HS0.out.size))
          clear hb
          refine hK.out _ _ HS1.out ?_
          clear hK K
          refine tkS 5 ?o56 ?v56 ?l56 ?a56 ?hi56 ?hq56 ?hl56 ?hw56 ?hv56 ?ha56 HS1.out ?hh56
          case hi56 => (simp only [gA,gB,gC]; try rfl)
          case hq56 => exact fun _ _ _ h => h
          case hl56 => (simp only [gD,gE,gF]; try rfl)
          case hw56 => rfl
          case hv56 =>
            intro W hW
            go_simp
            try with_reducible rfl
          case ha56 => (simp only [Act.put,gD,gE,gF]; try rfl)
          refine tkS 6 ?o57 ?v57 ?l57 ?a57 ?hi57 ?hq57 ?hl57 ?hw57 ?hv57 ?ha57 HS1.out ?hh57
          case hi57 => (simp only [gA,gB,gC]; try rfl)
          case hq57 => exact fun _ _ _ h => h
          case hl57 => (simp only [gD,gE,gF]; try rfl)
          case hw57 => rfl
          case hv57 =>
            intro W hW
            go_simp
            try with_reducible rfl
          case ha57 => (simp only [Act.put,gD,gE,gF]; try rfl)
          refine tkS 7 ?o58 ?v58 ?l58 ?a58 ?hi58 ?hq58 ?hl58 ?hw58 ?hv58 ?ha58 HS1.out ?hh58
          case hi58 => (simp only [gA,gB,gC]; try rfl)
          case hq58 => exact fun _ _ _ h => h
          case hl58 => (simp only [gD,gE,gF]; try rfl)
          case hw58 => rfl
          case hv58 =>
            intro W hW
            go_simp
            try with_reducible rfl
          case ha58 => (simp only [Act.put,gD,gE,gF]; try rfl)
          refine tkS 8 ?o59 ?v59 ?l59 ?a59 ?hi59 ?hq59 ?hl59 ?hw59 ?hv59 ?ha59 HS1.out ?hh59
          case hi59 => (simp only [gA,gB,gC]; try rfl)
          case hq59 => exact fun _ _ _ h => h
          case hl59 => (simp only [gD,gE,gF]; try rfl)
          case hw59 => rfl
          case hv59 =>
            intro W hW
            go_simp
            try with_reducible rfl
          case ha59 => (simp only [Act.put,gD,gE,gF]; try rfl)
          refine tkS 9 ?o60 ?v60 ?l60 ?a60 ?hi60 ?hq60 ?hl60 ?hw60 ?hv60 ?ha60 HS1.out ?hh60
          case hi60 => (simp only [gA,gB,gC]; try rfl)
          case hq60 => exact fun _ _ _ h => h
          case hl60 => (simp only [gD,gE,gF]; try rfl)
          case hw60 => rfl
          case hv60 =>
            intro W hW
            obtain ⟨m0, m1, m2, m3, m4⟩ := HF.out W (HXW.out W hW); obtain ⟨k0, k1, k2⟩ := HLW.out W hW
            go_simp
            try with_reducible rfl
          case ha60 => (simp only [Act.put,gD,gE,gF]; try rfl)
          refine tkS 10 ?o61 ?v61 ?l61 ?a61 ?hi61 ?hq61 ?hl61 ?hw61 ?hv61 ?ha61 HS1.out ?hh61
          case hi61 => (simp only [gA,gB,gC]; try rfl)
          case hq61 => exact fun _ _ _ h => h
          case hl61 => (simp only [gD,gE,gF]; try rfl)
          case hw61 => rfl
          case hv61 =>
            intro W hW
            go_simp
            try with_reducible rfl
          case ha61 => (simp only [Act.put,gD,gE,gF]; try rfl)
          refine tkS 11 ?o62 ?v62 ?l62 ?a62 ?hi62 ?hq62 ?hl62 ?hw62 ?hv62 ?ha62 HS1.out ?hh62
          case hi62 => (simp only [gA,gB,gC]; try rfl)
          case hq62 => exact fun _ _ _ h => h
          case hl62 => (simp only [gD,gE,gF]; try rfl)
          case hw62 => rfl
          case hv62 =>
            intro W hW
            go_simp
            try with_reducible rfl
          case ha62 => (simp only [Act.put,gD,gE,gF]; try rfl)
          refine tkS 12 ?o63 ?v63 ?l63 ?a63 ?hi63 ?hq63 ?hl63 ?hw63 ?hv63 ?ha63 HS1.out ?hh63
          case hi63 => (simp only [gA,gB,gC]; try rfl)
          case hq63 => exact fun _ _ _ h => h
          case hl63 => (simp only [gD,gE,gF]; try rfl)
          case hw63 => rfl
          case hv63 =>
            intro W hW
            go_simp
            try with_reducible rfl
          case ha63 => (simp only [Act.put,gD,gE,gF]; try rfl)
          refine tkS 13 ?o64 ?v64 ?l64 ?a64 ?hi64 ?hq64 ?hl64 ?hw64 ?hv64 ?ha64 HS1.out ?hh64
          case hi64 => (simp only [gA,gB,gC]; try rfl)
          case hq64 => exact fun _ _ _ h => h
          case hl64 => (simp only [gD,gE,gF]; try rfl)
          case hw64 => rfl
          case hv64 =>
            intro W hW
            obtain ⟨m0, m1, m2, m3, m4⟩ := HF.out W (HXW.out W hW); obtain ⟨k0, k1, k2⟩ := HLW.out W hW
            go_simp
            try with_reducible rfl
          case ha64 => (simp only [Act.put,gD,gE,gF]; try rfl)
          refine tkS 14 ?o65 ?v65 ?l65 ?a65 ?hi65 ?hq65 ?hl65 ?hw65 ?hv65 ?ha65 HS1.out ?hh65
          case hi65 => (simp only [gA,gB,gC]; try rfl)
          case hq65 => exact fun _ _ _ h => h
          case hl65 => (simp only [gD,gE,gF]; try rfl)
          case hw65 => rfl
          case hv65 =>
            intro W hW
            go_simp
            try with_reducible rfl
          case ha65 => (simp only [Act.put,gD,gE,gF]; try rfl)
          refine tkS 15 ?o66 ?v66 ?l66 ?a66 ?hi66 ?hq66 ?hl66 ?hw66 ?hv66 ?ha66 HS1.out ?hh66
          case hi66 => (simp only [gA,gB,gC]; try rfl)
          case hq66 => exact fun _ _ _ h => h
          case hl66 => (simp only [gD,gE,gF]; try rfl)
          case hw66 => rfl
          case hv66 =>
            intro W hW
            go_simp
            try with_reducible rfl
          case ha66 => (simp only [Act.put,gD,gE,gF]; try rfl)
          refine tkS 16 ?o67 ?v67 ?l67 ?a67 ?hi67 ?hq67 ?hl67 ?hw67 ?hv67 ?ha67 HS1.out ?hh67
          case hi67 => (simp only [gA,gB,gC]; try rfl)
          case hq67 => exact fun _ _ _ h => h
          case hl67 => (simp only [gD,gE,gF]; try rfl)
          case hw67 => rfl
          case hv67 =>
            intro W hW
            go_simp
            try with_reducible rfl
          case ha67 => (simp only [Act.put,gD,gE,gF]; try rfl)
          refine tkS 17 ?o68 ?v68 ?l68 ?a68 ?hi68 ?hq68 ?hl68 ?hw68 ?hv68 ?ha68 HS1.out ?hh68
          case hi68 => (simp only [gA,gB,gC]; try rfl)
          case hq68 => exact fun _ _ _ h => h
          case hl68 => (simp only [gD,gE,gF]; try rfl)
          case hw68 => rfl
          case hv68 =>
            intro W hW
            go_simp
            try with_reducible rfl
          case ha68 => (simp only [Act.put,gD,gE,gF]; try rfl)
          refine tkS 18 ?o69 ?v69 ?l69 ?a69 ?hi69 ?hq69 ?hl69 ?hw69 ?hv69 ?ha69 HS1.out ?hh69
          case hi69 => (simp only [gA,gB,gC]; try rfl)
          case hq69 => exact fun _ _ _ h => h
          case hl69 => (simp only [gD,gE,gF]; try rfl)
          case hw69 => rfl
          case hv69 =>
            intro W hW
            obtain ⟨m0, m1, m2, m3, m4⟩ := HF.out W (HXW.out W hW); obtain ⟨k0, k1, k2⟩ := HLW.out W hW
            go_simp
            try with_reducible rfl
          case ha69 => (simp only [Act.put,gD,gE,gF]; try rfl)
          refine tkS 19 ?o70 ?v70 ?l70 ?a70 ?hi70 ?hq70 ?hl70 ?hw70 ?hv70 ?ha70 HS1.out ?hh70
          case hi70 => (simp only [gA,gB,gC]; try rfl)
          case hq70 => exact fun _ _ _ h => h
          case hl70 => (simp only [gD,gE,gF]; try rfl)
          case hw70 => rfl
          case hv70 =>
            intro W hW
            go_simp
            try with_reducible rfl
          case ha70 => (simp only [Act.put,gD,gE,gF]; try rfl)
          refine tkS 20 ?o71 ?v71 ?l71 ?a71 ?hi71 ?hq71 ?hl71 ?hw71 ?hv71 ?ha71 HS1.out ?hh71
          case hi71 => (simp only [gA,gB,gC]; try rfl)
          case hq71 => exact fun _ _ _ h => h
          case hl71 => (simp only [gD,gE,gF]; try rfl)
          case hw71 => rfl
          case hv71 =>
            intro W hW
            go_simp
            try with_reducible rfl
          case ha71 => (simp only [Act.put,gD,gE,gF]; try rfl)
          refine tkS 21 ?o72 ?v72 ?l72 ?a72 ?hi72 ?hq72 ?hl72 ?hw72 ?hv72 ?ha72 HS1.out ?hh72
          case hi72 => (simp only [gA,gB,gC]; try rfl)
          case hq72 => exact fun _ _ _ h => h
          case hl72 => (simp only [gD,gE,gF]; try rfl)
          case hw72 => rfl
          case hv72 =>
            intro W hW
            go_simp
            try with_reducible rfl
          case ha72 => (simp only [Act.put,gD,gE,gF]; try rfl)
          refine tkS 22 ?o73 ?v73 ?l73 ?a73 ?hi73 ?hq73 ?hl73 ?hw73 ?hv73 ?ha73 HS1.out ?hh73
          case hi73 => (simp only [gA,gB,gC]; try rfl)
          case hq73 => exact fun _ _ _ h => h
          case hl73 => (simp only [gD,gE,gF]; try rfl)
          case hw73 => rfl
          case hv73 =>
            intro W hW
            obtain ⟨m0, m1, m2, m3, m4⟩ := HF.out W (HXW.out W hW); obtain ⟨k0, k1, k2⟩ := HLW.out W hW
            go_simp
            try with_reducible rfl
          case ha73 => (simp only [Act.put,gD,gE,gF]; try rfl)
          refine tkS 23 ?o74 ?v74 ?l74 ?a74 ?hi74 ?hq74 ?hl74 ?hw74 ?hv74 ?ha74 HS1.out ?hh74
          case hi74 => (simp only [gA,gB,gC]; try rfl)
          case hq74 => exact fun _ _ _ h => h
          case hl74 => (simp only [gD,gE,gF]; try rfl)
          case hw74 => rfl
          case hv74 =>
            intro W hW
            go_simp
            try with_reducible rfl
          case ha74 => (simp only [Act.put,gD,gE,gF]; try rfl)
          refine tkS 24 ?o75 ?v75 ?l75 ?a75 ?hi75 ?hq75 ?hl75 ?hw75 ?hv75 ?ha75 HS1.out ?hh75
          case hi75 => (simp only [gA,gB,gC]; try rfl)
          case hq75 => exact fun _ _ _ h => h
          case hl75 => (simp only [gD,gE,gF]; try rfl)
          case hw75 => rfl
          case hv75 =>
            intro W hW
            go_simp
            try with_reducible rfl
          case ha75 => (simp only [Act.put,gD,gE,gF]; try rfl)
          refine wpAnyH_done (by kernel_rfl) ?_ _
          have HB1 : Hid (Below w.heap.size w w1) := hid (HB0.out.trans (HS1.out.mono HB0.out.size))
          go_wp2_with fail
          go_ret
          rw [HR.out, handF_no (by rw [rightA_an]; exact fun h => by have h3 : m.m.fr < N := h.2.2; have h2 := HFR.out; omega)]
          exact LdP.still HH0.out HB1.out
    · as_aux_lemma =>
        have hbt : (tt != nd) = true := by simpa using ht
        refine rh_start (S := fun W => Below W0.heap.size W0 W) (n := 25) (listed := #[false, false, false, false, false, false, false, false, false, false, false, false, false, false, false, false, false, false, false, false, false, false, false, false, false]) (by kernel_rfl) rfl rfl ?_
        have HS0 : Hid (Below W0.heap.size W0 W0.drew) := hid (belowDrew (Below.refl _ W0))
        have HXW : Hid (∀ W, Below W0.heap.size W0 W → OM W w.heap.size m.m) := hid (fun W hW => heapB HX0.out hW (Array.getElem?_eq_some_iff.1 HX0.out).1)
        have HLW : Hid (∀ W, Below W0.heap.size W0 W → W.cell? ⟨q, 0, none⟩ = some (.int .i64 nd) ∧ W.cell? ⟨q, 1, none⟩ = some (.int .i64 N) ∧ W.cell? ⟨q, 2, none⟩ = some (.map (some b))) := hid (fun W hW => (HH.out.on hW).lq.cells)
        generalize W0.drew = wd at HS0 ⊢
        refine tkS 0 ?o26 ?v26 ?l26 ?a26 ?hi26 ?hq26 ?hl26 ?hw26 ?hv26 ?ha26 HS0.out ?hh26
        case hi26 => (simp only [List.getElem?_toArray, List.getElem?_cons_zero]; try rfl)
        case hq26 => exact fun _ _ _ h => h
        case hl26 => (simp only [List.setIfInBounds_toArray, List.set_cons_zero]; try rfl)
        case hw26 => rfl
        case hv26 =>
          intro W hW
          go_simp
          try with_reducible rfl
        case ha26 => (simp only [Act.put,gD,gE,gF]; try rfl)
        refine tkS 1 ?o27 ?v27 ?l27 ?a27 ?hi27 ?hq27 ?hl27 ?hw27 ?hv27 ?ha27 HS0.out ?hh27
        case hi27 => (simp only [gA,gB,gC]; try rfl)
        case hq27 => exact fun _ _ _ h => h
        case hl27 => (simp only [gD,gE,gF]; try rfl)
        case hw27 => rfl
        case hv27 =>
          intro W hW
          go_simp
          try with_reducible rfl
        case ha27 => (simp only [Act.put,gD,gE,gF]; try rfl)
        refine tkS 2 ?o28 ?v28 ?l28 ?a28 ?hi28 ?hq28 ?hl28 ?hw28 ?hv28 ?ha28 HS0.out ?hh28
        case hi28 => (simp only [gA,gB,gC]; try rfl)
        case hq28 => exact fun _ _ _ h => h
        case hl28 => (simp only [gD,gE,gF]; try rfl)
        case hw28 => rfl
        case hv28 =>
          intro W hW
          go_simp
          try with_reducible rfl
        case ha28 => (simp only [Act.put,gD,gE,gF]; try rfl)
        refine rh_loadW (i := 3) (o := ?o29) (cs := m.m.list) (T := 48) (x := ?x29) (b := ?b29) (q := ?q29) (listed' := ?l29) (a' := ?a29) ?hi29 (by kernel_rfl) (by kernel_rfl) (by kernel_rfl) ?hq29 ?hl29 ?hg29 ?ho29 ?hx29 ?hc29 Tryz.underlying48 rfl (infoM m.m) ?ha29 HS0.out ?hh29
        case hi29 => (simp only [gA,gB,gC]; try rfl)
        case hq29 => exact fun _ _ _ h => h
        case hl29 => (simp only [gD,gE,gF]; try rfl)
        case hg29 => rfl
        case ho29 => rfl
        case hx29 => rfl
        case hc29 => exact fun W hW => (HXW.out W hW).range
        case ha29 => (show Act.put _ _ (Value.agg m.m.arr) = _); (simp only [Act.put,gD,gE,gF]; try rfl)
        refine wpAnyH_ready (rs := [4]) (by kernel_rfl) (by simp) ?_
        refine rh_consW (i := 4) (o := ?o30) (listed' := ?l30) ?hi30 ?hl30 ?hg30 ?hh30 ?hs30
        case hi30 => (simp only [gA,gB,gC]; try rfl)
        case hl30 => (simp only [gD,gE,gF]; try rfl)
        case hg30 => rfl
        case hs30 => exact AllReadyH.nil
        intro K hK
        go_simp
        refine (HCR.out _ (HB0.out.trans (HS0.out.mono HB0.out.size))).mono ?_
        rintro z w1 ⟨rfl, hb⟩
        have HS1 : Hid (Below W0.heap.size W0 w1) := hid (HS0.out.trans (hb.mono HS0.out.size))
        clear hb
        refine hK.out _ _ HS1.out ?_
        clear hK K
        refine tkS 5 ?o31 ?v31 ?l31 ?a31 ?hi31 ?hq31 ?hl31 ?hw31 ?hv31 ?ha31 HS1.out ?hh31
        case hi31 => (simp only [gA,gB,gC]; try rfl)
        case hq31 => exact fun _ _ _ h => h
        case hl31 => (simp only [gD,gE,gF]; try rfl)
        case hw31 => rfl
        case hv31 =>
          intro W hW
          go_simp
          try with_reducible rfl
        case ha31 => (simp only [Act.put,gD,gE,gF]; try rfl)
        refine tkS 6 ?o32 ?v32 ?l32 ?a32 ?hi32 ?hq32 ?hl32 ?hw32 ?hv32 ?ha32 HS1.out ?hh32
        case hi32 => (simp only [gA,gB,gC]; try rfl)
        case hq32 => exact fun _ _ _ h => h
        case hl32 => (simp only [gD,gE,gF]; try rfl)
        case hw32 => rfl
        case hv32 =>
          intro W hW
          go_simp
          try with_reducible rfl
        case ha32 => (simp only [Act.put,gD,gE,gF]; try rfl)
        refine tkS 7 ?o33 ?v33 ?l33 ?a33 ?hi33 ?hq33 ?hl33 ?hw33 ?hv33 ?ha33 HS1.out ?hh33
        case hi33 => (simp only [gA,gB,gC]; try rfl)
        case hq33 => exact fun _ _ _ h => h
        case hl33 => (simp only [gD,gE,gF]; try rfl)
        case hw33 => rfl
        case hv33 =>
          intro W hW
          go_simp
          try with_reducible rfl
        case ha33 => (simp only [Act.put,gD,gE,gF]; try rfl)
        refine tkS 8 ?o34 ?v34 ?l34 ?a34 ?hi34 ?hq34 ?hl34 ?hw34 ?hv34 ?ha34 HS1.out ?hh34
        case hi34 => (simp only [gA,gB,gC]; try rfl)
        case hq34 => exact fun _ _ _ h => h
        case hl34 => (simp only [gD,gE,gF]; try rfl)
        case hw34 => rfl
        case hv34 =>
          intro W hW
          go_simp
          try with_reducible rfl
        case ha34 => (simp only [Act.put,gD,gE,gF]; try rfl)
        refine tkS 9 ?o35 ?v35 ?l35 ?a35 ?hi35 ?hq35 ?hl35 ?hw35 ?hv35 ?ha35 HS1.out ?hh35
        case hi35 => (simp only [gA,gB,gC]; try rfl)
        case hq35 => exact fun _ _ _ h => h
        case hl35 => (simp only [gD,gE,gF]; try rfl)
        case hw35 => rfl
        case hv35 =>
          intro W hW
          obtain ⟨m0, m1, m2, m3, m4⟩ := HF.out W (HXW.out W hW); obtain ⟨k0, k1, k2⟩ := HLW.out W hW
          go_simp
          try with_reducible rfl
        case ha35 => (simp only [Act.put,gD,gE,gF]; try rfl)
        refine tkS 10 ?o36 ?v36 ?l36 ?a36 ?hi36 ?hq36 ?hl36 ?hw36 ?hv36 ?ha36 HS1.out ?hh36
        case hi36 => (simp only [gA,gB,gC]; try rfl)
        case hq36 => exact fun _ _ _ h => h
        case hl36 => (simp only [gD,gE,gF]; try rfl)
        case hw36 => rfl
        case hv36 =>
          intro W hW
          go_simp
          try with_reducible rfl
        case ha36 => (simp only [Act.put,gD,gE,gF]; try rfl)
        refine tkS 11 ?o37 ?v37 ?l37 ?a37 ?hi37 ?hq37 ?hl37 ?hw37 ?hv37 ?ha37 HS1.out ?hh37
        case hi37 => (simp only [gA,gB,gC]; try rfl)
        case hq37 => exact fun _ _ _ h => h
        case hl37 => (simp only [gD,gE,gF]; try rfl)
        case hw37 => rfl
        case hv37 =>
          intro W hW
          go_simp
          try with_reducible rfl
        case ha37 => (simp only [Act.put,gD,gE,gF]; try rfl)
        refine tkS 12 ?o38 ?v38 ?l38 ?a38 ?hi38 ?hq38 ?hl38 ?hw38 ?hv38 ?ha38 HS1.out ?hh38
        case hi38 => (simp only [gA,gB,gC]; try rfl)
        case hq38 => exact fun _ _ _ h => h
        case hl38 => (simp only [gD,gE,gF]; try rfl)
        case hw38 => rfl
        case hv38 =>
          intro W hW
          go_simp
          try with_reducible rfl
        case ha38 => (simp only [Act.put,gD,gE,gF]; try rfl)
        refine tkS 13 ?o39 ?v39 ?l39 ?a39 ?hi39 ?hq39 ?hl39 ?hw39 ?hv39 ?ha39 HS1.out ?hh39
        case hi39 => (simp only [gA,gB,gC]; try rfl)
        case hq39 => exact fun _ _ _ h => h
        case hl39 => (simp only [gD,gE,gF]; try rfl)
        case hw39 => rfl
        case hv39 =>
          intro W hW
          obtain ⟨m0, m1, m2, m3, m4⟩ := HF.out W (HXW.out W hW); obtain ⟨k0, k1, k2⟩ := HLW.out W hW
          go_simp
          try with_reducible rfl
        case ha39 => (simp only [Act.put,gD,gE,gF]; try rfl)
        refine tkS 14 ?o40 ?v40 ?l40 ?a40 ?hi40 ?hq40 ?hl40 ?hw40 ?hv40 ?ha40 HS1.out ?hh40
        case hi40 => (simp only [gA,gB,gC]; try rfl)
        case hq40 => exact fun _ _ _ h => h
        case hl40 => (simp only [gD,gE,gF]; try rfl)
        case hw40 => rfl
        case hv40 =>
          intro W hW
          go_simp
          try with_reducible rfl
        case ha40 => (simp only [Act.put,gD,gE,gF]; try rfl)
        refine tkS 15 ?o41 ?v41 ?l41 ?a41 ?hi41 ?hq41 ?hl41 ?hw41 ?hv41 ?ha41 HS1.out ?hh41
        case hi41 => (simp only [gA,gB,gC]; try rfl)
        case hq41 => exact fun _ _ _ h => h
        case hl41 => (simp only [gD,gE,gF]; try rfl)
        case hw41 => rfl
        case hv41 =>
          intro W hW
          go_simp
          try with_reducible rfl
        case ha41 => (simp only [Act.put,gD,gE,gF]; try rfl)
        refine tkS 16 ?o42 ?v42 ?l42 ?a42 ?hi42 ?hq42 ?hl42 ?hw42 ?hv42 ?ha42 HS1.out ?hh42
        case hi42 => (simp only [gA,gB,gC]; try rfl)
        case hq42 => exact fun _ _ _ h => h
        case hl42 => (simp only [gD,gE,gF]; try rfl)
        case hw42 => rfl
        case hv42 =>
          intro W hW
          go_simp
          try with_reducible rfl
        case ha42 => (simp only [Act.put,gD,gE,gF]; try rfl)
        refine tkK 17 ?o43 ?l43 ?a43 ?hi43 ?hq43 ?hl43 ?hw43 ?ha43 HS1.out ?hh43
        case hi43 => (simp only [gA,gB,gC]; try rfl)
        case hq43 => exact fun _ _ _ h => h
        case hl43 => (simp only [gD,gE,gF]; try rfl)
        case hw43 => rfl
        case ha43 => (simp only [Act.put,gD,gE,gF]; try rfl)
        refine tkK 18 ?o44 ?l44 ?a44 ?hi44 ?hq44 ?hl44 ?hw44 ?ha44 HS1.out ?hh44
        case hi44 => (simp only [gA,gB,gC]; try rfl)
        case hq44 => exact fun _ _ _ h => h
        case hl44 => (simp only [gD,gE,gF]; try rfl)
        case hw44 => rfl
        case ha44 => (simp only [Act.put,gD,gE,gF]; try rfl)
        refine tkK 19 ?o45 ?l45 ?a45 ?hi45 ?hq45 ?hl45 ?hw45 ?ha45 HS1.out ?hh45
        case hi45 => (simp only [gA,gB,gC]; try rfl)
        case hq45 => exact fun _ _ _ h => h
        case hl45 => (simp only [gD,gE,gF]; try rfl)
        case hw45 => rfl
        case ha45 => (simp only [Act.put,gD,gE,gF]; try rfl)
        refine tkK 20 ?o46 ?l46 ?a46 ?hi46 ?hq46 ?hl46 ?hw46 ?ha46 HS1.out ?hh46
        case hi46 => (simp only [gA,gB,gC]; try rfl)
        case hq46 => exact fun _ _ _ h => h
        case hl46 => (simp only [gD,gE,gF]; try rfl)
        case hw46 => rfl
        case ha46 => (simp only [Act.put,gD,gE,gF]; try rfl)
        refine tkK 21 ?o47 ?l47 ?a47 ?hi47 ?hq47 ?hl47 ?hw47 ?ha47 HS1.out ?hh47
        case hi47 => (simp only [gA,gB,gC]; try rfl)
        case hq47 => exact fun _ _ _ h => h
        case hl47 => (simp only [gD,gE,gF]; try rfl)
        case hw47 => rfl
        case ha47 => (simp only [Act.put,gD,gE,gF]; try rfl)
        refine tkK 22 ?o48 ?l48 ?a48 ?hi48 ?hq48 ?hl48 ?hw48 ?ha48 HS1.out ?hh48
        case hi48 => (simp only [gA,gB,gC]; try rfl)
        case hq48 => exact fun _ _ _ h => h
        case hl48 => (simp only [gD,gE,gF]; try rfl)
        case hw48 => rfl
        case ha48 => (simp only [Act.put,gD,gE,gF]; try rfl)
        refine tkK 23 ?o49 ?l49 ?a49 ?hi49 ?hq49 ?hl49 ?hw49 ?ha49 HS1.out ?hh49
        case hi49 => (simp only [gA,gB,gC]; try rfl)
        case hq49 => exact fun _ _ _ h => h
        case hl49 => (simp only [gD,gE,gF]; try rfl)
        case hw49 => rfl
        case ha49 => (simp only [Act.put,gD,gE,gF]; try rfl)
        refine tkS 24 ?o50 ?v50 ?l50 ?a50 ?hi50 ?hq50 ?hl50 ?hw50 ?hv50 ?ha50 HS1.out ?hh50
        case hi50 => (simp only [gA,gB,gC]; try rfl)
        case hq50 => exact fun _ _ _ h => h
        case hl50 => (simp only [gD,gE,gF]; try rfl)
        case hw50 => rfl
        case hv50 =>
          intro W hW
          go_simp
          try with_reducible rfl
        case ha50 => (simp only [Act.put,gD,gE,gF]; try rfl)
        refine wpAnyH_done (by kernel_rfl) ?_ _
        have HB1 : Hid (Below w.heap.size w w1) := hid (HB0.out.trans (HS1.out.mono HB0.out.size))
        go_wp2_with fail
        go_ret
        rw [HR.out, handF_no (by rw [rightA_an]; exact fun h => ht (HTT.out.trans h.2.1))]
        exact LdP.still HH0.out HB1.out
end Go.Proofs.YtplodoindppleaaGreat
