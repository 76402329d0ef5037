import Derived.Test.YtplodoindppleaaGreatG31
namespace Go.Proofs.YtplodoindppleaaGreat
set_option linter.unusedVariables false
open Go.RowKit
open Go.Lib (hid)
theorem cNewL (nd N : Int) (w : World) (h : rightB N = true ∧ 0 ≤ nd ∧ nd < N) : Calls Tryz.prog 7 #[.int .i64 nd, .int .i64 N] w fun e w' => ∃ q, e = .returned (.tuple #[ptr q, .int .i64 0]) ∧ w.heap.size ≤ q ∧ Below w.heap.size w w' ∧ ∃ b, Ld w' w.heap.size q b 0 nd N (fun _ => none) := by
  obtain ⟨hr, h0, h1⟩ := h
  have hR := fun W => sRight_any N W
  rw [hr] at hR
  have hmk : Sem.run Tryz.prog (Instr.makeMap 66 none) w = .ok (.map (some w.heap.size)) (w.alloc (.map #[] 0)) := run_makeMap _ _
  have hlo : decide (nd < 0) = false := decide_eq_false (by omega)
  have hhi : decide (N ≤ nd) = false := decide_eq_false (by omega)
  go_enter Tryz.func7, Tryz.ntmps7
  go_wp2_with (first | (go_at_call 22; refine (hR _).mono ?_; rintro e w' ⟨rfl, rfl⟩) | fail)
  go_ret2
  refine ⟨w.heap.size + 1, rfl, Nat.le_succ _, ((Below.refl _ w).alloc (Nat.le_refl _) _).alloc (by simp) _, w.heap.size, ⟨laid2_1 w _ _, (Mq.made w).on ((Below.refl _ _).alloc (Nat.le_refl _) _), Nat.le_refl _⟩, fun i p x h => (by cases h), fun i j p x p' y h => (by cases h)⟩
set_option maxRecDepth 100000 in
theorem run_bldS (c : C7) (vt : Int) (r : Sv) (w : World) : (Instr.build 71 #[(0, .agg #[.int .i64 c.i, .int .i64 c.k, .int .i64 c.s, .int .i64 c.t, .int .i64 c.d, .int .i64 c.p, .int .i64 c.q]), (1, .int .i64 0), (2, .int .i64 1), (3, .agg #[.int .i64 vt, .slice r.a r.n r.c])]).run Tryz.prog w = .ok (.agg (⟨c, 0, 1, vt, r, [], false, zS, []⟩ : Ax).arr) w := by kernel_rfl
set_option maxRecDepth 100000 in
theorem run_bldT (c : C7) (bal : Int) (w : World) : (Instr.build 71 #[(0, .agg #[.int .i64 c.i, .int .i64 c.k, .int .i64 c.s, .int .i64 c.t, .int .i64 c.d, .int .i64 c.p, .int .i64 c.q]), (1, .int .i64 bal), (2, .int .i64 2)]).run Tryz.prog w = .ok (.agg (⟨c, bal, 2, 0, zS, [], false, zS, []⟩ : Ax).arr) w := by kernel_rfl
theorem wpList_bldT {ops : Array Oper} {rest : List Oper} {op : Oper} {a : Act} {w : World} {Q : Exit → Act → World → Prop} {x y : Operand} (c : C7) (bal : Int) (hgd : op.guard = none) (ho : op.op = .build 71 #[(0, x), (1, y), (2, .const (.int .i64 2))])
    (h1 : a.eval x = .agg #[.int .i64 c.i, .int .i64 c.k, .int .i64 c.s, .int .i64 c.t, .int .i64 c.d, .int .i64 c.p, .int .i64 c.q]) (h2 : a.eval y = .int .i64 bal) (h : wpList Tryz.prog ops Q rest (a.put op.dst (.agg (⟨c, bal, 2, 0, zS, [], false, zS, []⟩ : Ax).arr)) w) : wpList Tryz.prog ops Q (op :: rest) a w := by
  refine wpList_plain hgd fun _ hK' => ?_
  unfold Oper.wp execOp
  have hb := run_bldT c bal w
  have hc : a.eval (.const (.int .i64 2)) = .int .i64 2 := rfl
  simp only [ho, List.map_toArray, List.map_cons, List.map_nil, h1, h2, hc, Sem.run_bind]
  rw [hb]
  simp only [Result.andThen_ok]
  exact hK' _ _ h
set_option maxRecDepth 100000 in
theorem run_bld1 (w : World) : (Instr.build 48 #[(0, .int .i64 3)]).run Tryz.prog w = .ok (.agg (askM 3 0 zS false).arr) w := by kernel_rfl
theorem wpList_bld1 {ops : Array Oper} {rest : List Oper} {op : Oper} {a : Act} {w : World} {Q : Exit → Act → World → Prop} (hgd : op.guard = none) (ho : op.op = .build 48 #[(0, .const (.int .i64 3))])
    (h : wpList Tryz.prog ops Q rest (a.put op.dst (.agg (askM 3 0 zS false).arr)) w) : wpList Tryz.prog ops Q (op :: rest) a w := by
  refine wpList_plain hgd fun _ hK' => ?_
  unfold Oper.wp execOp
  have hb := run_bld1 w
  have hc : a.eval (.const (.int .i64 3)) = .int .i64 3 := rfl
  simp only [ho, List.map_toArray, List.map_cons, List.map_nil, hc, Sem.run_bind]
  rw [hb]
  simp only [Result.andThen_ok]
  exact hK' _ _ h
abbrev OCm (w : World) (q : Nat) (c : C7) : Prop := w.heap[q]? = some (.cells #[.int .i64 c.i, .int .i64 c.k, .int .i64 c.s, .int .i64 c.t, .int .i64 c.d, .int .i64 c.p, .int .i64 c.q] 42 (0, 0))
theorem OCm.range {w : World} {q : Nat} {c : C7} (h : OCm w q c) : w.rangeAt q 0 c.cells := fun j v hv => by
  rw [Nat.zero_add, cellAt' h, ← Array.getElem?_toList]; exact hv
theorem OCm.on {w w' : World} {q : Nat} {c : C7} (h : OCm w q c) (hb : Below w.heap.size w w') : OCm w' q c := heapB h hb (Array.getElem?_eq_some_iff.1 h).1
theorem clos_c {nd N : Int} {x : Ax} {a0 : Att} (hc : a0.c = x.c) : ∀ a, (closAllF nd N a0).1 = some a → a.c = x.c := fun a h => by
  unfold closAllF closF at h
  split at h
  · obtain rfl := Option.some.inj h; exact hc
  · cases h
theorem free_c {nd N : Int} {x : Ax} {a0 : Att} (hc : a0.c = x.c) {t : Int} {l : List C7} {e : Int} : ∀ a, (freeF nd N a0 t l e).1 = some a → a.c = x.c := fun a h => by
  unfold freeF propF at h
  split at h
  · obtain rfl := Option.some.inj h; exact hc
  · cases h
theorem raise_c {nd N : Int} {x : Ax} {a0 : Att} (hc : a0.c = x.c) : ∀ a, (raiseF nd N a0).1 = some a → a.c = x.c := fun a h => by
  unfold raiseF at h
  split at h
  · exact free_c hc a h
  · cases h
theorem slow_c {nd N : Int} {x : Ax} {a0 : Att} (hc : a0.c = x.c) : ∀ a, (slowF nd N a0).1 = some a → a.c = x.c := fun a h => by
  unfold slowF at h
  split at h
  · exact clos_c (a0 := { a0 with bal := 1 }) hc a h
  · exact raise_c (a0 := { a0 with bal := 1 }) hc a h
theorem reply_c {nd N : Int} {x : Ax} {m : An} : ∀ a, (replyF nd N x.att m).1 = some a → a.c = x.c := fun a h => by
  have hx : x.att.c = x.c := rfl
  have still : ∀ a0 : Att, a0.c = x.c → ∀ ls : List An, ((some a0, ls) : Res).1 = some a → a.c = x.c := fun a0 hc ls h => by obtain rfl := Option.some.inj h; exact hc
  unfold replyF at h
  split at h
  · cases h
  · split at h
    · exact still _ hx _ h
    · split at h
      · unfold voteF at h
        split at h
        · exact still _ hx _ h
        · split at h
          · unfold askedF at h
            split at h
            · cases h
            · split at h
              · exact slow_c (a0 := x.att.add m) hx a h
              · exact still (x.att.add m) hx _ h
          · unfold proposedF at h
            split at h
            · exact clos_c (a0 := x.att.add m) hx a h
            · split at h
              · exact free_c (a0 := x.att.add m) hx a h
              · split at h
                · exact raise_c (a0 := x.att.add m) hx a h
                · exact still (x.att.add m) hx _ h
      · split at h
        · unfold promiseF at h
          split at h
          · exact still _ hx _ h
          · split at h
            · exact still (x.att.add m) hx _ h
            · split at h
              · unfold goOnF at h
                split at h
                · cases h
                · split at h
                  · unfold closF at h; obtain rfl := Option.some.inj h; exact hx
                  · split at h
                    · split at h
                      · exact still (x.att.add m) hx _ h
                      · unfold propF at h; obtain rfl := Option.some.inj h; exact hx
                    · unfold propF at h; obtain rfl := Option.some.inj h; exact hx
              · cases h
        · split at h
          · unfold acceptedF at h
            split at h
            · exact still _ hx _ h
            · split at h
              · exact still (x.att.add m) hx _ h
              · cases h
          · split at h
            · cases h
            · exact still _ hx _ h
set_option maxHeartbeats 8000000 in
set_option maxRecDepth 100000 in
theorem cStart {w : World} {B q b n : Nat} {nd N : Int} {g : Gs} (h : Ld w B q b n nd N g) (hN : 3 ≤ N ∧ N ≤ 9) (hB : B ≤ w.heap.size) (hn : n < 1000000) {c : C7} (hw : (Lit.int .i64 c.i).wf = true) {vt : Int} {vp : Sv} {vl : List C7} (hv : Sl w vp.v vl) (hvl : vl.length ≤ 1024) : Calls Tryz.prog 10 #[ptr q, (.agg #[.int .i64 c.i, .int .i64 c.k, .int .i64 c.s, .int .i64 c.t, .int .i64 c.d, .int .i64 c.p, .int .i64 c.q]), .agg (varr vt vp)] w (LdP w B q b n nd N g (startF nd N g.lst c vt vl)) := by
  have HH := hid h
  have HB0 : Hid (Below w.heap.size w ((w.alloc (.cells #[.int .i64 c.i, .int .i64 c.k, .int .i64 c.s, .int .i64 c.t, .int .i64 c.d, .int .i64 c.p, .int .i64 c.q] 42)).alloc (.cells (varr vt vp) 34))) := hid (laid2_b w _ _)
  have HC0 : Hid (OCm ((w.alloc (.cells #[.int .i64 c.i, .int .i64 c.k, .int .i64 c.s, .int .i64 c.t, .int .i64 c.d, .int .i64 c.p, .int .i64 c.q] 42)).alloc (.cells (varr vt vp) 34)) w.heap.size c) := hid (laid2_0 w _ _)
  have HO0 : Hid (OV ((w.alloc (.cells #[.int .i64 c.i, .int .i64 c.k, .int .i64 c.s, .int .i64 c.t, .int .i64 c.d, .int .i64 c.p, .int .i64 c.q] 42)).alloc (.cells (varr vt vp) 34)) (w.heap.size + 1) vt vp) := hid (laid2_1 w _ _)
  have HV := hid (hv.on HB0.out)
  have HVL := hid hvl
  have HNN := hid hN
  have HNB := hid hn
  have HBB := hid (Nat.le_trans hB HB0.out.size)
  clear h hv hvl hN hn hB
  unfold startF
  go_enter Tryz.func10, Tryz.ntmps10
  go_upto_region 3 with fail
  generalize ((w.alloc (.cells #[.int .i64 c.i, .int .i64 c.k, .int .i64 c.s, .int .i64 c.t, .int .i64 c.d, .int .i64 c.p, .int .i64 c.q] 42)).alloc (.cells (varr vt vp) 34)) = W0 at HB0 HC0 HO0 HV HBB ⊢
  refine rh_start (S := fun W => Below W0.heap.size W0 W) (n := 6) (listed := #[false, false, false, false, false, false]) (by kernel_rfl) rfl rfl ?_
  have HS0 : Hid (Below W0.heap.size W0 W0.drew) := hid (belowDrew (Below.refl _ W0))
  generalize W0.drew = wd at HS0 ⊢
  refine rh_load (i := 0) (o := ?o1) (cs := c.cells) (T := 42) (x := ?x1) (b := ?b1) (q := ?q1) (listed' := ?l1) (a' := ?a1) ?hi1 (by kernel_rfl) (by kernel_rfl) (by kernel_rfl) ?hq1 ?hl1 ?hg1 ?ho1 ?hx1 ?hc1 Tryz.underlying42 rfl (show (Tryz.prog.info? 42).map (·.size) = some 7 by kernel_rfl) ?ha1 HS0.out ?hh1
  case hi1 => (simp only [List.getElem?_toArray, List.getElem?_cons_zero]; try rfl)
  case hq1 => exact fun _ _ _ h => h
  case hl1 => (simp only [List.setIfInBounds_toArray, List.set_cons_zero]; try rfl)
  case hg1 => rfl
  case ho1 => rfl
  case hx1 => rfl
  case hc1 => exact fun W hW => (HC0.out.on hW).range
  case ha1 => (show Act.put _ _ (Value.agg #[.int .i64 c.i, .int .i64 c.k, .int .i64 c.s, .int .i64 c.t, .int .i64 c.d, .int .i64 c.p, .int .i64 c.q]) = _); (simp only [Act.put,gD,gE,gF]; try rfl)
  refine rh_load (i := 1) (o := ?o2) (cs := vcs vt vp) (T := 34) (x := ?x2) (b := ?b2) (q := ?q2) (listed' := ?l2) (a' := ?a2) ?hi2 (by kernel_rfl) (by kernel_rfl) (by kernel_rfl) ?hq2 ?hl2 ?hg2 ?ho2 ?hx2 ?hc2 Tryz.underlying34 rfl (infoVl vt vp) ?ha2 HS0.out ?hh2
  case hi2 => (simp only [gA,gB,gC]; try rfl)
  case hq2 => exact fun _ _ _ h => h
  case hl2 => (simp only [gD,gE,gF]; try rfl)
  case hg2 => rfl
  case ho2 => rfl
  case hx2 => rfl
  case hc2 => exact fun W hW => (HO0.out.on hW).range
  case ha2 => (show Act.put _ _ (Value.agg (varr vt vp)) = _); (simp only [Act.put,gD,gE,gF]; try rfl)
  refine wpAnyH_ready (rs := [2]) (by kernel_rfl) (by simp) ?_
  refine rh_cons (i := 2) (o := ?o3) (listed' := ?l3) ?hi3 ?hl3 ?hg3 ?hh3 ?hs3
  case hi3 => (simp only [gA,gB,gC]; try rfl)
  case hl3 => (simp only [gD,gE,gF]; try rfl)
  case hg3 => rfl
  case hs3 => exact AllReadyH.nil
  intro K hK
  go_simp
  refine (cOwnL (HV.out.on HS0.out) (Nat.le_trans HVL.out (by decide))).mono ?_
  rintro z w1 ⟨⟨ra, rn, rc⟩, rfl, hs, hb⟩
  have HS1 := hid (HS0.out.trans (hb.mono HS0.out.size))
  have HR1 := hid hs
  clear hs hb
  refine hK.out _ _ HS1.out ?_
  clear hK K
  refine tkS 3 ?o5 ?v5 ?l5 ?a5 ?hi5 ?hq5 ?hl5 ?hw5 ?hv5 ?ha5 HS1.out ?hh5
  case hi5 => (simp only [gA,gB,gC]; try rfl)
  case hq5 => exact fun _ _ _ h => h
  case hl5 => (simp only [gD,gE,gF]; try rfl)
  case hw5 => rfl
  case hv5 =>
    intro W hW
    unfold execOp
    simp only [List.map_toArray, List.map_cons, List.map_nil]
    show Sem.run Tryz.prog ((Instr.build 71 #[(0, .agg #[.int .i64 c.i, .int .i64 c.k, .int .i64 c.s, .int .i64 c.t, .int .i64 c.d, .int .i64 c.p, .int .i64 c.q]), (1, .int .i64 0), (2, .int .i64 1), (3, .agg #[.int .i64 vt, .slice ra rn rc])]) >>= fun v => pure (Next.value v)) W = _
    rw [Sem.run_bind, run_bldS c vt ⟨ra, rn, rc⟩ W]
    rfl
  case ha5 => (simp only [Act.put,gD,gE,gF]; try rfl)
  refine wpAnyH_ready (rs := [4]) (by kernel_rfl) (by simp) ?_
  refine rh_cons (i := 4) (o := ?o6) (listed' := ?l6) ?hi6 ?hl6 ?hg6 ?hh6 ?hs6
  case hi6 => (simp only [gA,gB,gC]; try rfl)
  case hl6 => (simp only [gD,gE,gF]; try rfl)
  case hg6 => rfl
  case hs6 => exact AllReadyH.nil
  intro K hK
  go_simp
  obtain ⟨W2, hW2⟩ : ∃ z, z = w1.alloc (.cells (⟨c, 0, 1, vt, ⟨ra, rn, rc⟩, [], false, zS, []⟩ : Ax).arr 71) := ⟨_, rfl⟩
  rw [← hW2]
  have HB2 : Hid (Below w1.heap.size w1 W2) := hid (by rw [hW2]; exact laid1_b w1 _)
  have HP2 : Hid (OA W2 w1.heap.size ⟨c, 0, 1, vt, ⟨ra, rn, rc⟩, vl, false, zS, []⟩) := hid (by rw [hW2]; exact laid1_0 w1 _)
  clear hW2
  have HS2 := hid (HS1.out.trans (HB2.out.mono HS1.out.size))
  refine hK.out _ _ HS2.out ?_
  clear hK K
  refine tkS 5 ?o7 ?v7 ?l7 ?a7 ?hi7 ?hq7 ?hl7 ?hw7 ?hv7 ?ha7 HS2.out ?hh7
  case hi7 => (simp only [gA,gB,gC]; try rfl)
  case hq7 => exact fun _ _ _ h => h
  case hl7 => (simp only [gD,gE,gF]; try rfl)
  case hw7 => rfl
  case hv7 =>
    intro W hW
    go_simp
    try with_reducible rfl
  case ha7 => (simp only [Act.put,gD,gE,gF]; try rfl)
  refine wpAnyH_done (by kernel_rfl) ?_ _
  have HBw2 : Hid (Below w.heap.size w W2) := hid (HB0.out.trans (HS2.out.mono HB0.out.size))
  have HQ1 : Hid (w.heap.size ≤ w1.heap.size) := hid (Nat.le_trans HB0.out.size HS1.out.size)
  have HA2 : Hid (Ap W2 B w1.heap.size ⟨c, 0, 1, vt, ⟨ra, rn, rc⟩, vl, false, zS, []⟩) := hid ⟨HP2.out, OwnG.nil _ _ _ _ _, (HR1.out.on HB2.out).setC, by simp, Nat.le_trans HBB.out HS1.out.size⟩
  have hbe := cBegin (HH.out.lq.on HBw2.out) HA2.out HNN.out HNB.out hw (so := 0) (vt := vt) (vp := vp) (vl := vl) ((HV.out.on HS2.out)) HVL.out
  go_wp2_with (first
    | ((with_reducible refine loadVl (x := ?vx8) (b := (w.heap.size + 1)) (o := 0) vt vp ?vg8 ?vo8 ?vxx8 ?vc8 ?_); (case vg8 => rfl); (case vo8 => rfl); (case vxx8 => rfl); (case vc8 => exact (HO0.out.on HS2.out).range))
    | ((with_reducible refine wpList_bldA 0 vt vp (x := ?bx9) ?bg9 ?bo9 ?be9 ?_); (case bg9 => rfl); (case bo9 => rfl); (case be9 => rfl))
    | (go_at_call 24; refine hbe.mono ?_; intro e w3 h2; have H2 := hid h2; obtain ⟨v, ls, rfl, h3⟩ := h2; have H3 := hid h3; clear h3 hbe)
    | fail)
  go_ret
  exact HH.out.beg HBw2.out HQ1.out rfl H2.out
set_option maxHeartbeats 8000000 in
set_option maxRecDepth 100000 in
theorem cTakeL {w : World} {B q b n : Nat} {nd N : Int} {g : Gs} (h : Ld w B q b n nd N g) (hN : 3 ≤ N ∧ N ≤ 9) (hB : B ≤ w.heap.size) (hn : n < 1000000) {c : C7} (hw : (Lit.int .i64 c.i).wf = true) (bal : Int) : Calls Tryz.prog 11 #[ptr q, (.agg #[.int .i64 c.i, .int .i64 c.k, .int .i64 c.s, .int .i64 c.t, .int .i64 c.d, .int .i64 c.p, .int .i64 c.q]), .int .i64 bal] w (LdP w B q b n nd N g (takeF nd N g.lst c bal)) := by
  have HH := hid h
  have HB0 : Hid (Below w.heap.size w (w.alloc (.cells #[.int .i64 c.i, .int .i64 c.k, .int .i64 c.s, .int .i64 c.t, .int .i64 c.d, .int .i64 c.p, .int .i64 c.q] 42))) := hid (laid1_b w _)
  have HC0 : Hid (OCm (w.alloc (.cells #[.int .i64 c.i, .int .i64 c.k, .int .i64 c.s, .int .i64 c.t, .int .i64 c.d, .int .i64 c.p, .int .i64 c.q] 42)) w.heap.size c) := hid (laid1_0 w _)
  have HNN := hid hN
  have HNB := hid hn
  have HBB := hid (Nat.le_trans hB HB0.out.size)
  obtain ⟨ow, how⟩ : ∃ z, z = ownerI bal N := ⟨_, rfl⟩
  have hO := fun W => sOwner_any bal N W
  rw [← how] at hO
  unfold takeF
  rw [← how]
  clear how h hN hn hB
  by_cases ho : ow = nd
  · as_aux_lemma =>
      rw [if_pos ho]
      have hob : (ow != nd) = false := by simp [ho]
      go_enter Tryz.func11, Tryz.ntmps11
      go_upto_region 1 with fail
      generalize (w.alloc (.cells #[.int .i64 c.i, .int .i64 c.k, .int .i64 c.s, .int .i64 c.t, .int .i64 c.d, .int .i64 c.p, .int .i64 c.q] 42)) = W0 at HB0 HC0 HBB ⊢
      have HL0 := hid (HH.out.on HB0.out)
      obtain ⟨k0, k1, k2⟩ := HL0.out.lq.cells
      go_quiet ((first | (go_at_call 25; with_reducible exact quietS (hO _))))
      rename_i nq
      have HBq : Hid (Below W0.heap.size W0 (W0.drewN nq)) := hid (Below.drewL (Below.refl _ W0) nq)
      generalize W0.drewN nq = w1 at HBq ⊢
      have HB1 : Hid (Below w.heap.size w w1) := hid (HB0.out.trans (HBq.out.mono HB0.out.size))
      clear k0 k1 k2
      have HC1 := hid (HC0.out.on HBq.out)
      obtain ⟨W2, hW2⟩ : ∃ z, z = w1.alloc (.cells (⟨c, bal, 2, 0, zS, [], false, zS, []⟩ : Ax).arr 71) := ⟨_, rfl⟩
      have HB2 : Hid (Below w1.heap.size w1 W2) := hid (by rw [hW2]; exact laid1_b w1 _)
      have HP2 : Hid (OA W2 w1.heap.size ⟨c, bal, 2, 0, zS, [], false, zS, []⟩) := hid (by rw [hW2]; exact laid1_0 w1 _)
      have HW2 := hid hW2
      clear hW2
      have HBw2 : Hid (Below w.heap.size w W2) := hid (HB1.out.trans (HB2.out.mono HB1.out.size))
      have HA2 : Hid (Ap W2 B w1.heap.size ⟨c, bal, 2, 0, zS, [], false, zS, []⟩) := hid ⟨HP2.out, OwnG.nil _ _ _ _ _, (SetD.nil W2).setC, by simp, Nat.le_trans HBB.out HBq.out.size⟩
      have hbe := cBegin (HH.out.lq.on HBw2.out) HA2.out HNN.out HNB.out hw (so := 3) (vt := 0) (vp := zS) (vl := []) (SetD.nil W2).1 (Nat.zero_le _)
      have c0 : w1.cell? ⟨w.heap.size, 0, none⟩ = some (.int .i64 c.i) := (cellAt' HC1.out 0).trans rfl
      have c1 : w1.cell? ⟨w.heap.size, 1, none⟩ = some (.int .i64 c.k) := (cellAt' HC1.out 1).trans rfl
      have c2 : w1.cell? ⟨w.heap.size, 2, none⟩ = some (.int .i64 c.s) := (cellAt' HC1.out 2).trans rfl
      have c3 : w1.cell? ⟨w.heap.size, 3, none⟩ = some (.int .i64 c.t) := (cellAt' HC1.out 3).trans rfl
      have c4 : w1.cell? ⟨w.heap.size, 4, none⟩ = some (.int .i64 c.d) := (cellAt' HC1.out 4).trans rfl
      have c5 : w1.cell? ⟨w.heap.size, 5, none⟩ = some (.int .i64 c.p) := (cellAt' HC1.out 5).trans rfl
      have c6 : w1.cell? ⟨w.heap.size, 6, none⟩ = some (.int .i64 c.q) := (cellAt' HC1.out 6).trans rfl
      go_wp2_with (first
        | ((with_reducible refine wpList_bldT (x := ?bx10) (y := ?by10) c bal ?bg10 ?bo10 ?be10 ?bf10 ?_); (case bg10 => rfl); (case bo10 => rfl); (case be10 => rfl); (case bf10 => rfl))
        | ((with_reducible refine wpList_bld1 ?bg11 ?bo11 ?_); (case bg11 => rfl); (case bo11 => rfl); rw [← HW2.out])
        | (go_at_call 24; refine hbe.mono ?_; intro e w3 h2; have H2 := hid h2; obtain ⟨v, ls, rfl, h3⟩ := h2; have H3 := hid h3; clear h3 hbe)
        | fail)
      go_ret
      exact HH.out.beg HBw2.out HB1.out.size rfl H2.out
  · as_aux_lemma =>
      rw [if_neg ho]
      have hob : (ow != nd) = true := by simpa using ho
      go_enter Tryz.func11, Tryz.ntmps11
      go_upto_region 1 with fail
      generalize (w.alloc (.cells #[.int .i64 c.i, .int .i64 c.k, .int .i64 c.s, .int .i64 c.t, .int .i64 c.d, .int .i64 c.p, .int .i64 c.q] 42)) = W0 at HB0 HC0 HBB ⊢
      have HL0 := hid (HH.out.on HB0.out)
      obtain ⟨k0, k1, k2⟩ := HL0.out.lq.cells
      go_quiet ((first | (go_at_call 25; with_reducible exact quietS (hO _))))
      rename_i nq
      have HBq : Hid (Below W0.heap.size W0 (W0.drewN nq)) := hid (Below.drewL (Below.refl _ W0) nq)
      generalize W0.drewN nq = w1 at HBq ⊢
      have HB1 : Hid (Below w.heap.size w w1) := hid (HB0.out.trans (HBq.out.mono HB0.out.size))
      go_wp2_with fail
      go_ret
      exact LdP.still HH.out HB1.out
set_option maxHeartbeats 8000000 in
set_option maxRecDepth 100000 in
theorem cHurry {w : World} {B q b n : Nat} {nd N : Int} {g : Gs} (h : Ld w B q b n nd N g) (hN : 3 ≤ N ∧ N ≤ 9) (hB : B ≤ w.heap.size) (hn : n < 1000000) (hz : ∀ i p x, g i = some (p, x) → Sz 37 x) {i : Int} (hw : (Lit.int .i64 i).wf = true) : Calls Tryz.prog 12 #[ptr q, .int .i64 i] w (LdP w B q b n nd N g (hurryF nd N g.lst i)) := by
  have HH := hid h
  have HNN := hid hN
  have HBB := hid hB
  have HZ := hid hz
  have hlk := run_lookL h.lq.mp hw
  obtain ⟨k0, k1, k2⟩ := h.lq.cells
  clear h hN hn hB hz
  unfold hurryF
  rcases hg : g i with _ | ⟨p, x⟩
  · as_aux_lemma =>
      rw [show g.ptrs i = none by unfold Gs.ptrs; rw [hg]; rfl] at hlk
      rw [show ptrO none = Value.pointer none from rfl] at hlk
      rw [show g.lst i = none by unfold Gs.lst; rw [hg]; rfl]
      go_enter Tryz.func12, Tryz.ntmps12
      go_upto_region 4 with fail
      go_quiet (fail)
      rename_i nq
      have HB1 : Hid (Below w.heap.size w (w.drewN nq)) := hid (Below.drewL (Below.refl _ w) nq)
      generalize w.drewN nq = w1 at HB1 ⊢
      go_wp2_with fail
      go_ret
      exact LdP.still HH.out HB1.out
  · rw [show g.ptrs i = some p by unfold Gs.ptrs; rw [hg]; rfl] at hlk
    rw [show ptrO (some p) = ptr p from rfl] at hlk
    rw [show g.lst i = some x.att by unfold Gs.lst; rw [hg]; rfl]
    have HG := hid hg
    have hA := (HH.out.ea i p x hg).2
    have e8 := hA.cells.2.1
    have k12 := hA.cells.2.2.2.2.2.1
    rw [hA.rvn] at k12
    have hzx := (HZ.out i p x hg).len
    obtain ⟨cl, hcl⟩ : ∃ z, z = clI N := ⟨_, rfl⟩
    have hC := fun W => sClassic_any N W
    rw [← hcl] at hC ⊢
    clear hcl
    obtain ⟨rl, hrl⟩ : ∃ z, z = x.rs.length := ⟨_, rfl⟩
    rw [← hrl] at k12 hzx
    obtain ⟨ph, hph⟩ : ∃ z, z = x.ph := ⟨_, rfl⟩
    rw [← hph] at e8
    obtain ⟨R, hR⟩ : ∃ R : Lst × List An, R = if ph ≠ 1 ∨ (rl : Int) < cl then (g.lst, []) else (g.lst.put i (slowF nd N x.att).1, (slowF nd N x.att).2) := ⟨_, rfl⟩
    have HRR := hid hR
    show Calls _ _ _ _ (LdP w B q b n nd N g (if x.att.ph ≠ 1 ∨ (x.att.rs.length : Int) < cl then (g.lst, []) else (g.lst.put i (slowF nd N x.att).1, (slowF nd N x.att).2)))
    rw [rs_len, show x.att.ph = ph from hph.symm, ← hrl, ← hR]
    clear hR hph hrl hg
    by_cases h1 : ph ≠ 1
    · as_aux_lemma =>
        go_enter Tryz.func12, Tryz.ntmps12
        go_upto_region 4 with fail
        have hb : (ph != 1) = true := by simpa using h1
        go_quiet (fail)
        rename_i nq
        have HB1 : Hid (Below w.heap.size w (w.drewN nq)) := hid (Below.drewL (Below.refl _ w) nq)
        generalize w.drewN nq = w1 at HB1 ⊢
        go_wp2_with fail
        go_ret
        rw [HRR.out, if_pos (.inl h1)]
        exact LdP.still HH.out HB1.out
    · have h1e : ph = 1 := Classical.not_not.1 h1
      subst h1e
      clear h1
      by_cases h2 : (rl : Int) < cl
      · as_aux_lemma =>
          go_enter Tryz.func12, Tryz.ntmps12
          go_upto_region 4 with fail
          have hb2 : decide ((rl : Int) < cl) = true := decide_eq_true h2
          go_quiet ((first | (go_at_call 26; with_reducible exact quietS (hC _))))
          rename_i nq
          have HB1 : Hid (Below w.heap.size w (w.drewN nq)) := hid (Below.drewL (Below.refl _ w) nq)
          generalize w.drewN nq = w1 at HB1 ⊢
          go_wp2_with fail
          go_ret
          rw [HRR.out, if_pos (.inr h2)]
          exact LdP.still HH.out HB1.out
      · as_aux_lemma =>
          go_enter Tryz.func12, Tryz.ntmps12
          go_upto_region 4 with fail
          have hb2 : decide ((rl : Int) < cl) = false := decide_eq_false h2
          go_quiet ((first | (go_at_call 26; with_reducible exact quietS (hC _))))
          rename_i nq
          have HB1 : Hid (Below w.heap.size w (w.drewN nq)) := hid (Below.drewL (Below.refl _ w) nq)
          generalize w.drewN nq = w1 at HB1 ⊢
          have hca := cSlowly ((HH.out.on HB1.out).lq) ((HH.out.on HB1.out).ea i p x HG.out).2 HNN.out (Nat.le_trans HBB.out HB1.out.size) ((HZ.out i p x HG.out).mono (by decide))
          go_wp2_with (first
            | (go_at_call 27; refine hca.mono ?_; intro e w6 h2; have H2 := hid h2; obtain ⟨v, ls, rfl, h3⟩ := h2; have H3 := hid h3; clear h3 hca)
            | fail)
          go_ret
          rw [HRR.out, if_neg (fun h => by rcases h with h | h; exact h rfl; omega)]
          exact ((HH.out.on HB1.out).act HG.out H2.out (slow_c (by rfl))).from HB1.out
end Go.Proofs.YtplodoindppleaaGreat
