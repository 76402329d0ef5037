import Derived.Test.YtlehcaacfgocaaaGreatVHandleZm
import Derived.Lib.SliceRun
import Derived.Test.YtlehcaacfgocaaaGreatG35
namespace Go.Proofs.YtlehcaacfgocaaaGreat
set_option linter.unusedVariables false
open Go.RowKit
open Go.Lib (hid)
set_option maxHeartbeats 1600000 in
set_option maxRecDepth 100000 in
theorem cCloneM {w : World} {B : Nat} {v : Value} {ms : List Mg} (h : OwnM w B v ms) (hl : ms.length ≤ 1000) : Calls Tryz.prog 42 #[v] w fun e w' => ∃ r, e = .returned r ∧ OwnM w' w.heap.size r ms ∧ Below w.heap.size w w' := by
  have hq : ∀ (w : World) (a : Option Addr) (n c n' c' : Nat), (binOp .eql 24 (.slice a n c) (.slice none n' c')).run Tryz.prog w = .ok (.bool a.isNone) w := fun w a n c n' c' => Lib.run_eql_slice_nil w _ _ a n c n' c' Tryz.underlying24
  have HO := hid h
  have HL := hid hl
  rcases h.2 with ⟨rfl, h0⟩ | ⟨g, cap, cur, rfl, hb, hg, hn, hm, hs, ht⟩
  · obtain rfl : ms = [] := List.length_eq_zero_iff.1 h0
    clear h h0 hl
    go_enter Tryz.func42, Tryz.ntmps42
    go_wp2
    go_ret
    exact ⟨_, rfl, OwnG.nil _ _ _ _ _, Below.refl _ _⟩
  · obtain ⟨n, hnn⟩ : ∃ n, n = ms.length := ⟨_, rfl⟩
    rw [← hnn] at HO hn ⊢
    have HN := hid hnn
    clear h hb hg hm hs ht hl hn hnn
    go_enter Tryz.func42, Tryz.ntmps42
    go_wp2_with (at_builtin; refine wpList_copy_ms rfl _ _ rfl rfl rfl rfl rfl HO.out HL.out ?_)
    intro v' w1 ho hB
    have HO1 := hid ho
    have HB1 := hid hB
    clear ho hB
    go_wp2_with fail
    go_ret
    exact ⟨_, rfl, HO1.out, HB1.out⟩
set_option maxHeartbeats 1600000 in
set_option maxRecDepth 100000 in
theorem cWaiting {w : World} {B : Bd} {q x b b2 N : Nat} {nd : Int} {s : Sd} {wv : Value} {ws : List Ms} (h : Vo w B q x b b2 N nd s wv ws) (hl : ws.length ≤ 1000) :
    Calls Tryz.prog 14 #[ptr q] w fun e w' => ∃ r, e = .returned r ∧ OwnM w' w.heap.size r (mgs ws) ∧ Below w.heap.size w w' := by
  obtain ⟨n, ids, hn, hv⟩ := h.ix
  have k1 := hv.cells.2.1
  have hC := cCloneM hv.ow (by unfold mgs; rw [List.length_map]; exact hl)
  clear h hv hn
  go_enter Tryz.func14, Tryz.ntmps14
  go_wp2_with (go_at_call 42; refine hC.mono ?_; rintro e w1 ⟨r, rfl, ho, hB⟩; have HO := hid ho; have HB := hid hB; clear ho hB)
  go_ret
  exact ⟨_, rfl, HO.out, HB.out⟩
set_option maxHeartbeats 1600000 in
set_option maxRecDepth 100000 in
theorem cNewV {w : World} {B : Bd} {x b b2 n : Nat} {nd c : Int} {xs : List En} {ids : List Int} (h : Ix w x b b2 n nd c xs ids) :
    Calls Tryz.prog 12 #[ptr x] w fun e w' => ∃ q, e = .returned (.tuple #[ptr q, .int .i64 0]) ∧ w.heap.size ≤ q ∧ Vx w' B q x b b2 n nd c xs ids (.slice none 0 0) [] false ∧ Below w.heap.size w w' := by
  have HI := hid h
  clear h
  go_enter Tryz.func12, Tryz.ntmps12
  go_wp2
  go_ret2
  have hb := (Below.refl w.heap.size w).alloc (Nat.le_refl _) (.cells #[ptr x, .slice none 0 0, .bool false] 59)
  exact ⟨w.heap.size, rfl, Nat.le_refl _, ⟨heap_alloc_new w _, HI.out.on hb, OwnG.nil _ _ _ _ _, fun k e => by cases e⟩, hb⟩
def fitsM (m : Ms) : Bool := decide (m.v.length ≤ 100) && (decide (m.a.length ≤ 100) && decide (m.f.length ≤ 100))
theorem fitsM_short {m : Ms} (h : fitsM m = true) : m.short 100 := by
  unfold fitsM at h
  simp only [Bool.and_eq_true, decide_eq_true_eq] at h
  exact ⟨h.1, h.2.1, h.2.2⟩
set_option maxHeartbeats 4000000 in
set_option maxRecDepth 100000 in
theorem cFitsM {w : World} {m : Ms} (hm : m.at w) : Calls Tryz.prog 28 #[.agg m.m.arr] w fun e w' => e = .returned (.bool (fitsM m)) ∧ Below w.heap.size w w' := by
  have HB := hid (laid1_b w (.cells m.m.arr 50))
  have HM : Hid (OM (w.alloc (.cells m.m.arr 50)) w.heap.size m.m) := hid (laid1_0 w _)
  have e1 := hm.1.lenP
  have e2 := hm.2.1.lenP
  have e3 := hm.2.2.lenP
  obtain ⟨n1, h1⟩ : ∃ n, n = m.m.vp.n := ⟨_, rfl⟩
  obtain ⟨n2, h2⟩ : ∃ n, n = m.m.xp.n := ⟨_, rfl⟩
  obtain ⟨n3, h3⟩ : ∃ n, n = m.m.fp.n := ⟨_, rfl⟩
  have HE : Hid (fitsM m = (decide (n1 ≤ 100) && (decide (n2 ≤ 100) && decide (n3 ≤ 100)))) := hid (by unfold fitsM; rw [h1, h2, h3, e1, e2, e3])
  have H1 := hid h1
  have H2 := hid h2
  have H3 := hid h3
  clear e1 e2 e3 h1 h2 h3 hm
  go_enter Tryz.func28, Tryz.ntmps28
  go_upto_region 1 with fail
  generalize (w.alloc (.cells m.m.arr 50)) = W0 at HB HM ⊢
  have k1 : W0.cell? ⟨w.heap.size, 12, none⟩ = some (.slice m.m.vp.a n1 m.m.vp.c) := by rw [H1.out]; exact HM.out.cell (m := m.m) (j := 12) rfl
  have k2 : W0.cell? ⟨w.heap.size, 17, none⟩ = some (.slice m.m.xp.a n2 m.m.xp.c) := by rw [H2.out]; exact HM.out.cell (m := m.m) (j := 17) rfl
  have k3 : W0.cell? ⟨w.heap.size, 19, none⟩ = some (.slice m.m.fp.a n3 m.m.fp.c) := by rw [H3.out]; exact HM.out.cell (m := m.m) (j := 19) rfl
  by_cases c1 : n1 ≤ 100
  · have c1i : (n1 : Int) ≤ 100 := by omega
    by_cases c2 : n2 ≤ 100
    · have c2i : (n2 : Int) ≤ 100 := by omega
      by_cases c3 : n3 ≤ 100
      · have c3i : (n3 : Int) ≤ 100 := by omega
        have HR : Hid (fitsM m = true) := hid (by rw [HE.out]; simp [c1, c2, c3])
        clear c1 c2 c3
        go_wp2_with fail
        go_ret
        exact ⟨ret_bool HR.out.symm, HB.out⟩
      · have c3i : ¬ (n3 : Int) ≤ 100 := by omega
        have HR : Hid (fitsM m = false) := hid (by rw [HE.out]; simp [c3])
        clear c1 c2 c3
        go_wp2_with fail
        go_ret
        exact ⟨ret_bool HR.out.symm, HB.out⟩
    · have c2i : ¬ (n2 : Int) ≤ 100 := by omega
      have HR : Hid (fitsM m = false) := hid (by rw [HE.out]; simp [c2])
      clear c1 c2
      go_wp2_with fail
      go_ret
      exact ⟨ret_bool HR.out.symm, HB.out⟩
  · have c1i : ¬ (n1 : Int) ≤ 100 := by omega
    have HR : Hid (fitsM m = false) := hid (by rw [HE.out]; simp [c1])
    clear c1
    go_wp2_with fail
    go_ret
    exact ⟨ret_bool HR.out.symm, HB.out⟩
set_option maxHeartbeats 4000000 in
set_option maxRecDepth 100000 in
theorem cFitsMs {v : Value} {l : List Ms} {w : World} (h : SlM w v (mgs l)) (hA : ∀ m ∈ l, m.at w) (hl : l.length ≤ 9223372036854775807) : Calls Tryz.prog 7 #[v] w fun e w' => (e = .returned (.bool false) ∨ (e = .returned (.bool true) ∧ l.length ≤ 40 ∧ ∀ m ∈ l, m.short 100)) ∧ Below w.heap.size w w' := by
  obtain ⟨b, o, cap, a, rfl, ha, hc, hb⟩ := h
  have hlm : (mgs l).length = l.length := by unfold mgs; rw [List.length_map]
  rw [hlm] at ha hb ⊢
  have HA := hid hA
  have HCC := hid hc
  obtain ⟨m, hm⟩ : ∃ m, m = l.length := ⟨_, rfl⟩
  rw [← hm] at ha hb hl ⊢
  have HN := hid hm
  clear hm hA hc hlm
  go_enter Tryz.func7, Tryz.ntmps7
  go_wp2_with fail
  go_loopw [3] (fun i wr => ∃ (k : Nat), k ≤ m ∧ k ≤ 41 ∧ i = .int .i64 k ∧ Hid (∀ y ∈ l.take k, fitsM y = true) ∧ Below w.heap.size w wr) (fun i _ => m - (RowKit.intOf i).toNat)
  case atStart => exact ⟨0, Nat.zero_le _, by omega, rfl, hid (by simp), Below.refl _ _⟩
  case round =>
    obtain ⟨k, hk, hk41, rfl, HALL, hB⟩ := hrel
    have HB := hid hB
    clear hB
    by_cases hlt : k < m
    · by_cases h40 : k ≤ 40
      · obtain rfl := ha (by omega)
        obtain ⟨y, hy⟩ : ∃ y, l[k]? = some y := ⟨l[k]'(by rw [← HN.out]; exact hlt), List.getElem?_eq_getElem (by rw [← HN.out]; exact hlt)⟩
        have hbw := hb (by omega)
        have HC : Hid (wr.rangeAt b (o + k * 20) y.m.list) := hid ((HCC.out.on HB.out fun _ => hbw) k y.m (at_mgs hy))
        have HE := hid hy
        have hF := cFitsM ((HA.out y (List.mem_of_getElem? hy)).on HB.out)
        obtain ⟨rt, hrt⟩ : ∃ rt, rt = fitsM y := ⟨_, rfl⟩
        rw [← hrt] at hF
        have HRT := hid hrt
        clear hy hrt
        rcases rt with _ | _
        · go_wp2_with (first
            | ((with_reducible refine loadMl (x := ?lx1) (b := ?lb1) (o := ?lo1) y.m ?lg1 ?lp1 ?lxx1 ?lc1 ?_); (case lg1 => rfl); (case lp1 => rfl); (case lxx1 => rfl); (case lc1 => exact HC.out))
            | (go_at_call 28; refine hF.mono ?_; rintro q w1 ⟨rfl, hB1⟩; have HB1 := hid (HB.out.trans (hB1.mono HB.out.size)); clear hB1)
            | fail)
          go_ret
          exact ⟨.inl rfl, HB1.out⟩
        · go_wp2_with (first
            | ((with_reducible refine loadMl (x := ?lx2) (b := ?lb2) (o := ?lo2) y.m ?lg2 ?lp2 ?lxx2 ?lc2 ?_); (case lg2 => rfl); (case lp2 => rfl); (case lxx2 => rfl); (case lc2 => exact HC.out))
            | (go_at_call 28; refine hF.mono ?_; rintro q w1 ⟨rfl, hB1⟩; have HB1 := hid (HB.out.trans (hB1.mono HB.out.size)); clear hB1)
            | fail)
          go_roundw
          case rel => exact ⟨k + 1, by omega, by omega, by go_num, hid (fun z hz => by rw [List.take_add_one, HE.out] at hz; rcases List.mem_append.1 hz with hz | hz; exact HALL.out z hz; simp at hz; subst hz; exact HRT.out.symm), HB1.out⟩
          case measure => simp [RowKit.intOf]; omega
      · have hm40 : ¬ m ≤ 40 := by omega
        go_wp2_with fail
        go_ret
        exact ⟨.inl (ret_bool (decide_eq_false (by omega))), HB.out⟩
    · have hkk : k = m := by omega
      subst hkk
      by_cases hm40 : k ≤ 40
      · have HF : Hid (∀ y ∈ l, y.short 100) := hid (fun y hy => fitsM_short (by have := HALL.out; rw [HN.out, List.take_length] at this; exact this y hy))
        have HM := hid hm40
        go_wp2_with fail
        go_ret
        exact ⟨.inr ⟨ret_bool (decide_eq_true (by have := HM.out; omega)), HM.out, HF.out⟩, HB.out⟩
      · go_wp2_with fail
        go_ret
        exact ⟨.inl (ret_bool (decide_eq_false (by omega))), HB.out⟩
end Go.Proofs.YtlehcaacfgocaaaGreat
namespace Go.Proofs.YtlehcaacfgocaaaGreat
set_option linter.unusedVariables false
open Go.RowKit
open Go.Lib (hid)
def Fv1 (y : En) : Prop := y.e.ft ≠ 0 → y.e.lo ≠ 0 ∧ y.e.lo ≤ y.e.ft ∧ y.e.ft ≤ y.e.hi
def Fv (xs : List En) : Prop := ∀ i, hasE xs i = true → Fv1 (lkE xs i)
theorem fv1_gr {y z : En} (h : Fv1 y) (hg : Gr1 y z) (he : z.e.ft = y.e.ft) : Fv1 z := fun h0 => by
  rw [he] at h0 ⊢
  obtain ⟨h1, h2, h3⟩ := h h0
  obtain ⟨g1, g2, g3⟩ := hg.lo h1
  exact ⟨g1, by omega, by omega⟩
theorem fv_snoc {xs : List En} {y : En} (h : Fv xs) (hy : Fv1 y) : Fv (xs ++ [y]) := fun i hi => by
  rw [lk_snoc]
  rw [hs_snoc] at hi
  by_cases e : y.id = i
  · rw [if_pos e]; exact hy
  · rw [if_neg e] at hi ⊢; exact h i hi
structure AnsK (nd : Int) (xs : List En) (m : Ms) (a : An) : Prop where
  fr : a.fr = nd
  tt : a.tt = m.m.fr
  c : a.c = m.m.c
  bal : a.so ≠ 7 → a.bal = m.m.bal ∧ m.m.bal ≤ (lkE xs m.m.c.i).e.pr
  okay : a.so = 1 → a.vt = m.m.vt ∧ (lkE xs m.m.c.i).e.lo ≠ 0 ∧ (lkE xs m.m.c.i).e.lo ≤ m.m.vt ∧ m.m.vt ≤ (lkE xs m.m.c.i).e.hi
  stab : a.so = 7 → (lkE xs m.m.c.i).e.dn = true
  rej : a.so = 8 → a.bal < a.ab
theorem AnsK.gr {nd : Int} {xs ys : List En} {m : Ms} {a : An} (h : AnsK nd xs m a) (hh : hasE xs m.m.c.i = true) (hg : Gr xs ys) : AnsK nd ys m a := by
  have g := (hg _ hh).2
  refine ⟨h.fr, h.tt, h.c, fun h7 => ⟨(h.bal h7).1, Int.le_trans (h.bal h7).2 g.pr⟩, fun h1 => ?_, fun h7 => (g.dn (h.stab h7)).1, h.rej⟩
  obtain ⟨k1, k2, k3, k4⟩ := h.okay h1
  obtain ⟨g1, g2, g3⟩ := g.lo k2
  exact ⟨k1, g1, by omega, by omega⟩
structure StepP (xs ys : List En) : Prop where
  gr : Gr xs ys
  nd : Nd xs ys
  fv : Fv ys
theorem stepP_refl {xs : List En} (h : Fv xs) : StepP xs xs := ⟨Gr.refl _, Nd.refl _, h⟩
theorem stepP_snoc {xs : List En} {y : En} (h : Fv xs) (hg : Gr1 (lkE xs y.id) y) (hd : y.e.dn = (lkE xs y.id).e.dn) (hf : Fv1 y) : StepP xs (xs ++ [y]) :=
  ⟨gr_snoc fun _ => hg, nd_snoc fun _ h => by rw [← hd]; exact h, fv_snoc h hf⟩
theorem StepP.trans {xs ys zs : List En} (h : StepP xs ys) (k : StepP ys zs) : StepP xs zs := ⟨h.gr.trans k.gr, Nd.trans h.gr h.nd k.nd, k.fv⟩
theorem res_dn (y : En) {t : Int} (ht : validB t = true) : (resY y t).e.dn = y.e.dn ∧ (resY y t).e.ft = y.e.ft ∧ (resY y t).id = y.id := by
  unfold resY En.id; rw [res_eq ht]; exact ⟨rfl, rfl, rfl⟩
theorem vot_dn (y : En) {m : Ms} (ht : validB m.m.vt = true) : (votY y m).e.dn = y.e.dn ∧ (votY y m).e.ft = m.m.vt ∧ (votY y m).id = y.id := by
  unfold votY En.id; rw [res_eq ht]; exact ⟨rfl, rfl, rfl⟩
theorem acc_dn (y : En) {m : Ms} (ht : validB m.m.vt = true) : (accY y m).e.dn = y.e.dn ∧ (accY y m).e.ft = y.e.ft ∧ (accY y m).id = y.id := by
  unfold accY En.id; rw [res_eq ht]; exact ⟨rfl, rfl, rfl⟩
theorem back_an (nd : Int) (m : Ms) (a : An) (h : a.so ≠ 7) : (backA nd m a).fr = nd ∧ (backA nd m a).tt = m.m.fr ∧ (backA nd m a).c = m.m.c ∧ (backA nd m a).bal = m.m.bal ∧ (backA nd m a).so = a.so ∧ (backA nd m a).vt = a.vt ∧ (backA nd m a).ab = a.ab ∧ (backA nd m a).vl = a.vl := by
  unfold backA; refine ⟨rfl, rfl, rfl, ?_, rfl, rfl, rfl, rfl⟩; exact if_neg h
theorem dec_p {nd : Int} {s : Sd} {m : Ms} (hw : Wt s m) (hp : m.m.bal ≤ (lkE s.xs m.m.c.i).e.pr) (hf : Fv s.xs) : StepP s.xs (decideF nd s m (lkE s.xs m.m.c.i)).1.xs ∧ ∀ a ∈ (decideF nd s m (lkE s.xs m.m.c.i)).2, AnsK nd (decideF nd s m (lkE s.xs m.m.c.i)).1.xs m a ∧ a.so ≠ 6 := by
  have hv := (full_parts hw.full).1
  have h16 := valid_ne hv
  have hid' := (lkE_mem hw.has).2
  have hfi := hf _ hw.has
  generalize hy : lkE s.xs m.m.c.i = y at hp hid' hfi ⊢
  unfold decideF
  split
  · rename_i h1
    rw [Bool.and_eq_true] at h1
    have hvo := h1.1
    unfold votedB at hvo
    rw [Bool.and_eq_true, decide_eq_true_eq] at hvo
    refine ⟨stepP_refl hf, fun a ha => ?_⟩
    rw [List.mem_singleton] at ha
    subst ha
    obtain ⟨b1, b2, b3, b4, b5, b6, b7, b8⟩ := back_an nd m { zA with so := 1, vt := m.m.vt, fl := true } (by simp)
    have hq := hfi (by rw [hvo.1]; omega)
    rw [hvo.1] at hq
    rw [← hy] at hq hp
    exact ⟨⟨b1, b2, b3, fun _ => ⟨b4, hp⟩, fun _ => ⟨b6, hq⟩, fun h7 => by rw [b5] at h7; exact absurd h7 (by simp), fun h7 => by rw [b5] at h7; exact absurd h7 (by simp)⟩, by rw [b5]; simp⟩
  · split
    · unfold refuseF
      simp only [fresh_xs]
      refine ⟨stepP_refl hf, fun a ha => ?_⟩
      split at ha
      · rw [List.mem_singleton] at ha
        subst ha
        obtain ⟨b1, b2, b3, b4, b5, b6, b7, b8⟩ := back_an nd m { zA with so := 2, vt := m.m.vt, vl := predL s.xs m.m.c (mkV (s.c + 1) nd), s := mkV (s.c + 1) nd } (by simp)
        rw [← hy] at hp
        exact ⟨⟨b1, b2, b3, fun _ => ⟨b4, hp⟩, fun h7 => by rw [b5] at h7; exact absurd h7 (by simp), fun h7 => by rw [b5] at h7; exact absurd h7 (by simp), fun h7 => by rw [b5] at h7; exact absurd h7 (by simp)⟩, by rw [b5]; simp⟩
      · cases ha
    · split
      · exact ⟨stepP_refl hf, fun a ha => by cases ha⟩
      · unfold agreeF putD
        simp only
        have key : ∀ z : En, Gr1 y z ∧ z.e.lo ≠ 0 ∧ z.e.lo ≤ m.m.vt ∧ m.m.vt ≤ z.e.hi → z.e.dn = y.e.dn → z.id = y.id → Fv1 z → StepP s.xs (s.xs ++ [z]) ∧ ∀ a ∈ [backA nd m { zA with so := 1, vt := m.m.vt, vl := moreL s.xs m, fl := votesB s.xs m y }], AnsK nd (s.xs ++ [z]) m a ∧ a.so ≠ 6 := by
          rintro z ⟨g1, g2, g3, g4⟩ hd hi hfz
          have hzi : z.id = m.m.c.i := hi.trans hid'
          refine ⟨stepP_snoc hf (by rw [hzi, hy]; exact g1) (by rw [hzi, hy]; exact hd) hfz, fun a ha => ?_⟩
          rw [List.mem_singleton] at ha
          subst ha
          obtain ⟨b1, b2, b3, b4, b5, b6, b7, b8⟩ := back_an nd m { zA with so := 1, vt := m.m.vt, vl := moreL s.xs m, fl := votesB s.xs m y } (by simp)
          have hl : lkE (s.xs ++ [z]) m.m.c.i = z := by rw [lk_snoc, if_pos hzi]
          exact ⟨⟨b1, b2, b3, fun _ => ⟨b4, by rw [hl]; exact Int.le_trans hp g1.pr⟩, fun _ => ⟨b6, by rw [hl]; exact ⟨g2, g3, g4⟩⟩, fun h7 => by rw [b5] at h7; exact absurd h7 (by simp), fun h7 => by rw [b5] at h7; exact absurd h7 (by simp)⟩, by rw [b5]; simp⟩
        split
        · exact key _ (vot_gr hv) (vot_dn y hv).1 (vot_dn y hv).2.2 (fun _ => by rw [(vot_dn y hv).2.1]; exact (vot_gr hv).2)
        · exact key _ (res_gr hv) (res_dn y hv).1 (res_dn y hv).2.2 (fv1_gr hfi (res_gr hv).1 (res_dn y hv).2.1)
theorem early_st {nd : Int} {s : Sd} {m : Ms} {y : En} (hy : lkE s.xs m.m.c.i = y) (hd : y.e.dn = true) : AnsK nd s.xs m (backA nd m { zA with so := 7, vt := y.e.vt, vl := y.v }) ∧ (backA nd m { zA with so := 7, vt := y.e.vt, vl := y.v }).so ≠ 6 := by
  refine ⟨⟨rfl, rfl, rfl, fun h => absurd rfl h, fun h => ?_, fun _ => by rw [hy]; exact hd, fun h => ?_⟩, ?_⟩
  · exact absurd h (by simp [backA])
  · exact absurd h (by simp [backA])
  · simp [backA]
theorem early_re {nd : Int} {s : Sd} {m : Ms} {y : En} (hy : lkE s.xs m.m.c.i = y) (hb : m.m.bal < y.e.pr) : AnsK nd s.xs m (backA nd m { zA with so := 8, ab := y.e.pr }) ∧ (backA nd m { zA with so := 8, ab := y.e.pr }).so ≠ 6 := by
  obtain ⟨b1, b2, b3, b4, b5, b6, b7, b8⟩ := back_an nd m { zA with so := 8, ab := y.e.pr } (by simp)
  exact ⟨⟨b1, b2, b3, fun _ => ⟨b4, by rw [hy]; omega⟩, fun h7 => by rw [b5] at h7; exact absurd h7 (by simp), fun h7 => by rw [b5] at h7; exact absurd h7 (by simp), fun _ => by rw [b4, b7]; exact hb⟩, by rw [b5]; simp⟩
theorem ans_p {nd : Int} {s : Sd} {m : Ms} (hw : Wt s m) (hp : m.m.bal ≤ (lkE s.xs m.m.c.i).e.pr) (hf : Fv s.xs) : StepP s.xs (ansD nd s m).1.xs ∧ ∀ a ∈ (ansD nd s m).2, AnsK nd (ansD nd s m).1.xs m a ∧ a.so ≠ 6 := by
  unfold ansD answerF
  rw [← lkE_e]
  split
  · rename_i h
    refine ⟨stepP_refl hf, fun a ha => ?_⟩
    rw [List.mem_singleton] at ha; subst ha
    exact early_st rfl h.2
  · split
    · rename_i h
      refine ⟨stepP_refl hf, fun a ha => ?_⟩
      rw [List.mem_singleton] at ha; subst ha
      exact early_re rfl h.2
    · exact dec_p hw hp hf
structure Iv (s : Sd) (ws : List Ms) : Prop where
  gd : Gd s
  wt : ∀ m ∈ ws, Wt s m
  kn : ∀ m ∈ ws, (lkE s.xs m.m.c.i).e.c = m.m.c
  pr : ∀ m ∈ ws, m.m.bal ≤ (lkE s.xs m.m.c.i).e.pr
  fv : Fv s.xs
theorem Iv.gr {s s' : Sd} {ws : List Ms} (h : Iv s ws) (hg : Gr s.xs s'.xs) (hd : Gd s') (hf : Fv s'.xs) : Iv s' ws :=
  ⟨hd, fun m hm => (h.wt m hm).gr hg, fun m hm => ((hg _ (h.wt m hm).has).2.c).trans (h.kn m hm), fun m hm => Int.le_trans (h.pr m hm) (hg _ (h.wt m hm).has).2.pr, hf⟩
theorem Iv.sub {s : Sd} {ws ws' : List Ms} (h : Iv s ws) (hs : ∀ m ∈ ws', m ∈ ws) : Iv s ws' := ⟨h.gd, fun m hm => h.wt m (hs m hm), fun m hm => h.kn m (hs m hm), fun m hm => h.pr m (hs m hm), h.fv⟩
theorem Iv.add {s : Sd} {ws : List Ms} {m : Ms} (h : Iv s ws) (h1 : Wt s m) (h2 : (lkE s.xs m.m.c.i).e.c = m.m.c) (h3 : m.m.bal ≤ (lkE s.xs m.m.c.i).e.pr) : Iv s (ws ++ [m]) :=
  ⟨h.gd, fun x hx => by rcases List.mem_append.1 hx with hx | hx; exact h.wt x hx; rw [List.mem_singleton] at hx; subst hx; exact h1,
   fun x hx => by rcases List.mem_append.1 hx with hx | hx; exact h.kn x hx; rw [List.mem_singleton] at hx; subst hx; exact h2,
   fun x hx => by rcases List.mem_append.1 hx with hx | hx; exact h.pr x hx; rw [List.mem_singleton] at hx; subst hx; exact h3, h.fv⟩
theorem thru_p {nd : Int} : ∀ {ws : List Ms} {s : Sd}, Iv s ws → StepP s.xs (thruF nd s ws).1.xs ∧ Gd (thruF nd s ws).1 ∧ (thruF nd s ws).2.1.Sublist ws ∧ ∀ a ∈ (thruF nd s ws).2.2, ∃ m ∈ ws, AnsK nd (thruF nd s ws).1.xs m a ∧ a.so ≠ 6
  | [], s, h => ⟨stepP_refl h.fv, h.gd, List.Sublist.refl _, fun a ha => by cases ha⟩
  | m :: ws, s, h => by
    unfold thruF
    split
    · exact ⟨stepP_refl h.fv, h.gd, List.Sublist.refl _, fun a ha => by cases ha⟩
    · have hm : m ∈ m :: ws := List.mem_cons_self
      obtain ⟨h1, h2⟩ := ans_p (nd := nd) (h.wt m hm) (h.pr m hm) h.fv
      have hg1 := gd_ans (nd := nd) h.gd (h.wt m hm)
      have h' := (h.sub (ws' := ws) fun x hx => List.mem_cons_of_mem _ hx).gr h1.gr hg1 h1.fv
      obtain ⟨k1, k2, k3, k4⟩ := thru_p (nd := nd) h'
      refine ⟨h1.trans k1, k2, ?_, fun a ha => ?_⟩
      · dsimp only
        split
        · exact k3.cons_cons m
        · exact k3.cons m
      · rcases List.mem_append.1 ha with ha | ha
        · obtain ⟨a1, a2⟩ := h2 a ha
          exact ⟨m, hm, a1.gr (h1.gr _ (h.wt m hm).has).1 k1.gr, a2⟩
        · obtain ⟨x, hx, a1, a2⟩ := k4 a ha
          exact ⟨x, List.mem_cons_of_mem _ hx, a1, a2⟩
end Go.Proofs.YtlehcaacfgocaaaGreat
namespace Go.Proofs.YtlehcaacfgocaaaGreat
set_option linter.unusedVariables false
open Go.RowKit
open Go.Lib (hid)
theorem fresh_step {xs : List En} (h : Fv xs) (cs : List C7) : StepP xs (xs ++ freshF xs cs) :=
  ⟨fresh_gr xs cs, fun i hi hd => by rw [(fresh_lk hi cs).2] at hd; exact hd, fun i hi => by
    rw [lk_app]
    rcases hf : hasE (freshF xs cs) i with _ | _
    · rw [hs_app, hf] at hi
      exact h i hi
    · obtain ⟨c, _, hc⟩ := fresh_new (lkE_mem hf).1
      rw [if_pos rfl, hc]
      exact fun h0 => absurd rfl h0⟩
structure HandP (nd : Int) (s : Sd) (ws : List Ms) (m : Ms) (r : Sd × List Ms × List An) : Prop where
  gr : Gr s.xs r.1.xs
  iv : Iv r.1 r.2.1
  ans : ∀ a ∈ r.2.2, ∃ x ∈ m :: ws, AnsK nd r.1.xs x a ∧ (a.so = 6 → x = m ∧ m.m.so = 5 ∧ (lkE r.1.xs m.m.c.i).e.ab = a.bal ∧ (lkE r.1.xs m.m.c.i).e.xt = m.m.vt)
theorem wait_iv {s : Sd} {ws : List Ms} {m : Ms} (h : Iv s ws) (h1 : Wt s m) (h2 : (lkE s.xs m.m.c.i).e.c = m.m.c) (h3 : m.m.bal ≤ (lkE s.xs m.m.c.i).e.pr) : Iv s (waitF ws m) :=
  (h.sub fun x hx => (List.mem_filter.1 hx).1).add h1 h2 h3
theorem prop_p {nd : Int} {s : Sd} {ws : List Ms} {m : Ms} (h : Iv s ws) (hs : m.m.so = 0) (hsh : m.short 1024) (hr : rightM m = true) (hh : hasE s.xs m.m.c.i = true) (hc : (lkE s.xs m.m.c.i).e.c = m.m.c) (hb : ¬ m.m.bal < (lkE s.xs m.m.c.i).e.pr) :
    HandP nd s ws m (proposeF nd s ws m (lkE s.xs m.m.c.i)) ∧ StepP s.xs (proposeF nd s ws m (lkE s.xs m.m.c.i)).1.xs := by
  have hid' := (lkE_mem hh).2
  have hfi := h.fv _ hh
  obtain ⟨g, g1, g2, g3, g4, g5, g6⟩ := prop_gr (y := lkE s.xs m.m.c.i) hb
  have hyi : (propY m (lkE s.xs m.m.c.i)).id = m.m.c.i := by show (propY m (lkE s.xs m.m.c.i)).e.c.i = _; rw [g2, hc]
  have hst : StepP s.xs (putD s (propY m (lkE s.xs m.m.c.i))).xs := stepP_snoc h.fv (by rw [hyi]; exact g) (by rw [hyi]; exact g3) (fv1_gr hfi g g4)
  have hl : lkE (putD s (propY m (lkE s.xs m.m.c.i))).xs m.m.c.i = propY m (lkE s.xs m.m.c.i) := by unfold putD; rw [lk_snoc, if_pos hyi]
  have hw : Wt (putD s (propY m (lkE s.xs m.m.c.i))) m := ⟨hs, hsh, own_full hr (.inl hs), (hst.gr _ hh).1, (right_bal hr).2⟩
  have hry : (propY m (lkE s.xs m.m.c.i)).right = true := by
    have := h.gd _ (lkE_mem hh).1
    unfold propY; split
    · exact right_free (right_prom this (right_bal hr).1)
    · exact right_prom this (right_bal hr).1
  have hgd : Gd (putD s (propY m (lkE s.xs m.m.c.i))) := gd_put h.gd hry
  have hd := dec_p (nd := nd) hw (by rw [hl, g1]; exact Int.le_refl _) hst.fv
  have hgd2 := gd_dec (nd := nd) (m := m) hgd hw.full hry
  rw [hl] at hd
  obtain ⟨h1, h2⟩ := hd
  have hst2 := hst.trans h1
  unfold proposeF
  refine ⟨⟨hst2.gr, ?_, fun a ha => ?_⟩, hst2⟩
  · dsimp only
    have hi := h.gr hst2.gr hgd2 hst2.fv
    split
    · refine wait_iv hi (hw.gr h1.gr) ?_ ?_
      · rw [(h1.gr _ hw.has).2.c, hl, g2, hc]
      · have := (h1.gr _ hw.has).2.pr
        rw [hl, g1] at this
        exact this
    · exact hi
  · obtain ⟨a1, a2⟩ := h2 a ha
    exact ⟨m, List.mem_cons_self, a1, fun h6 => absurd h6 a2⟩
theorem prep_p {nd : Int} {s : Sd} {ws : List Ms} {m : Ms} (h : Iv s ws) (hr : rightM m = true) (hh : hasE s.xs m.m.c.i = true) (hc : (lkE s.xs m.m.c.i).e.c = m.m.c) (hb : ¬ m.m.bal < (lkE s.xs m.m.c.i).e.pr) :
    HandP nd s ws m ((prepareF nd s m (lkE s.xs m.m.c.i)).1, ws, (prepareF nd s m (lkE s.xs m.m.c.i)).2) ∧ StepP s.xs (prepareF nd s m (lkE s.xs m.m.c.i)).1.xs := by
  have hfi := h.fv _ hh
  have g := prom_gr hb
  have hyi : (promY (lkE s.xs m.m.c.i) m.m.bal).id = m.m.c.i := (lkE_mem hh).2
  have hst : StepP s.xs (putD s (promY (lkE s.xs m.m.c.i) m.m.bal)).xs := stepP_snoc h.fv (by rw [hyi]; exact g) (by rw [hyi]; rfl) (fv1_gr hfi g rfl)
  have hgd : Gd (putD s (promY (lkE s.xs m.m.c.i) m.m.bal)) := gd_put h.gd (right_prom (h.gd _ (lkE_mem hh).1) (right_bal hr).1)
  unfold prepareF
  have hx : (freshS nd (putD s (promY (lkE s.xs m.m.c.i) m.m.bal))).xs = (putD s (promY (lkE s.xs m.m.c.i) m.m.bal)).xs := fresh_xs _ _
  refine ⟨⟨by dsimp only; rw [hx]; exact hst.gr, h.gr (by dsimp only; rw [hx]; exact hst.gr) (by dsimp only; unfold Gd; rw [hx]; exact hgd) (by dsimp only; rw [hx]; exact hst.fv), fun a ha => ?_⟩, by dsimp only; rw [hx]; exact hst⟩
  dsimp only at ha ⊢
  rw [hx]
  split at ha
  · rw [List.mem_singleton] at ha; subst ha
    refine ⟨m, List.mem_cons_self, ⟨rfl, rfl, rfl, fun _ => ⟨rfl, ?_⟩, fun h7 => absurd h7 (by simp [backA]), fun h7 => absurd h7 (by simp [backA]), fun h7 => absurd h7 (by simp [backA])⟩, fun h7 => absurd h7 (by simp [backA])⟩
    unfold putD
    rw [lk_snoc, if_pos hyi]
    exact Int.le_refl _
  · cases ha
theorem acc_p {nd : Int} {s : Sd} {ws : List Ms} {m : Ms} (h : Iv s ws) (hs : m.m.so = 5) (hr : rightM m = true) (hh : hasE s.xs m.m.c.i = true) (hc : (lkE s.xs m.m.c.i).e.c = m.m.c) (hb : ¬ m.m.bal < (lkE s.xs m.m.c.i).e.pr) :
    HandP nd s ws m ((acceptF nd s m (lkE s.xs m.m.c.i)).1, ws, (acceptF nd s m (lkE s.xs m.m.c.i)).2) ∧ StepP s.xs (acceptF nd s m (lkE s.xs m.m.c.i)).1.xs := by
  have hfi := h.fv _ hh
  have hful := own_full hr (.inr (.inl hs))
  have hv := (full_parts hful).1
  unfold acceptF
  split
  · exact ⟨⟨Gr.refl _, h, fun a ha => by cases ha⟩, stepP_refl h.fv⟩
  · rename_i h0
    obtain ⟨g, g1, g2, g3⟩ := acc_gr (y := lkE s.xs m.m.c.i) hv hb
    obtain ⟨d1, d2, d3⟩ := acc_dn (lkE s.xs m.m.c.i) hv
    have hyi : (accY (lkE s.xs m.m.c.i) m).id = m.m.c.i := d3.trans (lkE_mem hh).2
    have hst : StepP s.xs (putD s (accY (lkE s.xs m.m.c.i) m)).xs := stepP_snoc h.fv (by rw [hyi]; exact g) (by rw [hyi]; exact d1) (fv1_gr hfi g d2)
    have hgd : Gd (putD s (accY (lkE s.xs m.m.c.i) m)) := gd_put h.gd (right_acc (h.gd _ (lkE_mem hh).1) (right_bal hr).1 hful h0)
    have hl : lkE (putD s (accY (lkE s.xs m.m.c.i) m)).xs m.m.c.i = accY (lkE s.xs m.m.c.i) m := by unfold putD; rw [lk_snoc, if_pos hyi]
    refine ⟨⟨hst.gr, h.gr hst.gr hgd hst.fv, fun a ha => ?_⟩, hst⟩
    rw [List.mem_singleton] at ha; subst ha
    refine ⟨m, List.mem_cons_self, ⟨rfl, rfl, rfl, fun _ => ⟨rfl, by rw [hl, g1]; exact Int.le_refl _⟩, fun h7 => absurd h7 (by simp [backA]), fun h7 => absurd h7 (by simp [backA]), fun h7 => absurd h7 (by simp [backA])⟩, fun _ => ⟨rfl, hs, by rw [hl, g2]; rfl, by rw [hl, g3]⟩⟩
theorem sett_p {nd : Int} {s : Sd} {ws : List Ms} {m : Ms} (h : Iv s ws) (hs : m.m.so = 7) (hr : rightM m = true) (hh : hasE s.xs m.m.c.i = true) (hc : (lkE s.xs m.m.c.i).e.c = m.m.c) :
    HandP nd s ws m (settleF nd s ws m (lkE s.xs m.m.c.i)) := by
  have hfi := h.fv _ hh
  have hful := own_full hr (.inr (.inr hs))
  have hry := h.gd _ (lkE_mem hh).1
  have hyi := (lkE_mem hh).2
  have key : ∀ z : En, z.id = m.m.c.i → Gr1 (lkE s.xs m.m.c.i) z → z.e.ft = (lkE s.xs m.m.c.i).e.ft → z.right = true → HandP nd s ws m (thruF nd (putD s z) ws) := fun z hz g hft hzr => by
    have hg : Gr s.xs (putD s z).xs := gr_snoc fun _ => by rw [hz]; exact g
    have hf : Fv (putD s z).xs := fv_snoc h.fv (fv1_gr hfi g hft)
    have hi := h.gr hg (gd_put h.gd hzr) hf
    obtain ⟨k1, k2, k3, k4⟩ := thru_p (nd := nd) hi
    refine ⟨hg.trans k1.gr, (hi.gr k1.gr k2 k1.fv).sub (fun x hx => k3.subset hx), fun a ha => ?_⟩
    obtain ⟨x, hx, a1, a2⟩ := k4 a ha
    exact ⟨x, List.mem_cons_of_mem _ hx, a1, fun h6 => absurd h6 a2⟩
  unfold settleF
  split
  · split
    · exact key _ hyi (Gr1.refl _) rfl hry
    · exact ⟨Gr.refl _, h, fun a ha => by cases ha⟩
  · rename_i hd
    exact key _ hyi (fin_gr hd) rfl (right_fin hry hful)
theorem overP {nd : Int} {s : Sd} {ws : List Ms} {m : Ms} {r : Sd × List Ms × List An} (h : HandP nd s ws m r) : HandP nd s ws m (overF r) := by
  unfold overF
  split
  · exact ⟨h.gr, h.iv, fun a ha => by cases ha⟩
  · exact h
theorem HandP.from {nd : Int} {s s1 : Sd} {ws : List Ms} {m : Ms} {r : Sd × List Ms × List An} (h : HandP nd s1 ws m r) (hg : Gr s.xs s1.xs) : HandP nd s ws m r := ⟨hg.trans h.gr, h.iv, h.ans⟩
theorem ready_iv {s : Sd} {ws : List Ms} {m : Ms} (h : Iv s ws) (ht : learnE s.xs (m.m.c :: m.v) = 0) : Iv (readyS s m) ws ∧ StepP s.xs (readyS s m).xs ∧ hasE (readyS s m).xs m.m.c.i = true ∧ (lkE (readyS s m).xs m.m.c.i).e.c = m.m.c := by
  have hst : StepP s.xs (readyS s m).xs := fresh_step h.fv _
  exact ⟨h.gr hst.gr (learn_gd h.gd ht) hst.fv, hst, learn_has ht List.mem_cons_self⟩
theorem answer_p {nd : Int} {s : Sd} {ws : List Ms} {m : Ms} (h : Iv s ws) (hsh : m.short 1024) (hr : rightM m = true) (htk : takesB m.m.so = true) (hh : hasE s.xs m.m.c.i = true) (hc : (lkE s.xs m.m.c.i).e.c = m.m.c) : HandP nd s ws m (answerT nd s ws m (lkE s.xs m.m.c.i)) := by
  unfold answerT
  split
  · rename_i h1
    refine ⟨Gr.refl _, h, fun a ha => ?_⟩
    rw [List.mem_singleton] at ha; subst ha
    obtain ⟨a1, a2⟩ := early_st (nd := nd) (s := s) (m := m) rfl h1.2
    exact ⟨m, List.mem_cons_self, a1, fun h6 => absurd h6 a2⟩
  · split
    · rename_i h1
      refine ⟨Gr.refl _, h, fun a ha => ?_⟩
      rw [List.mem_singleton] at ha; subst ha
      obtain ⟨a1, a2⟩ := early_re (nd := nd) (s := s) (m := m) rfl h1.2
      exact ⟨m, List.mem_cons_self, a1, fun h6 => absurd h6 a2⟩
    · rename_i h1 h2
      unfold takeF
      split
      · rename_i h0; exact (prop_p h h0 hsh hr hh hc (fun hlt => h2 ⟨by omega, hlt⟩)).1
      · split
        · rename_i h3; exact (prep_p h hr hh hc (fun hlt => h2 ⟨by omega, hlt⟩)).1
        · split
          · rename_i h5; exact (acc_p h h5 hr hh hc (fun hlt => h2 ⟨by omega, hlt⟩)).1
          · rename_i h0 h3 h5
            refine sett_p h ?_ hr hh hc
            unfold takesB at htk
            simp only [Bool.or_eq_true, decide_eq_true_eq] at htk
            omega
theorem handle_p {nd : Int} {s : Sd} {ws : List Ms} {m : Ms} (h : Iv s ws) (hsh : m.short 1024) : HandP nd s ws m (handleF nd s ws m) := by
  unfold handleF
  split
  · rename_i ht
    obtain ⟨h1, h2, h3, h4⟩ := ready_iv h ht.2.2.2
    exact (overP (answer_p h1 hsh ht.2.1 ht.2.2.1 h3 h4)).from h2.gr
  · exact ⟨Gr.refl _, h, fun a ha => by cases ha⟩
end Go.Proofs.YtlehcaacfgocaaaGreat
namespace Go.Proofs.YtlehcaacfgocaaaGreat
set_option linter.unusedVariables false
open Go.RowKit
open Go.Lib (hid)
abbrev cA1 : C7 := ⟨16, 1, 0, 17, 0, 0, 0⟩
abbrev cB1 : C7 := ⟨17, 1, 0, 16, 0, 0, 0⟩
abbrev mA : Ms := ⟨{ zM with c := cA1, vt := 48 }, [], [], []⟩
abbrev mB : Ms := ⟨{ zM with fr := 1, c := cB1, vt := 33 }, [], [], []⟩
abbrev mC (p : Sv) : Ms := ⟨{ zM with so := 7, c := cA1, vt := 48, vp := p }, [cB1], [], []⟩
theorem learn_zero {xs : List En} {cs : List C7} (h1 : cs.all C7.ok = true) (h2 : FineL xs cs) : learnE xs cs = 0 := by
  unfold learnE
  rw [if_pos h1, if_pos h2]
theorem handle_is {nd : Int} {s : Sd} {ws : List Ms} {m : Ms} (h : TakenP s m) : handleF nd s ws m = overF (answerT nd (readyS s m) ws m (lkE (readyS s m).xs m.m.c.i)) := by unfold handleF; rw [if_pos h]
abbrev st0 : Sd := ⟨[], 0, false⟩
def re1 : Sd × List Ms × List An := overF (answerT 2 (readyS st0 mA) [] mA (lkE (readyS st0 mA).xs 16))
def re2 : Sd × List Ms × List An := overF (answerT 2 (readyS re1.1 mB) re1.2.1 mB (lkE (readyS re1.1 mB).xs 17))
def re3 (p : Sv) : Sd × List Ms × List An := overF (answerT 2 (readyS re2.1 (mC p)) re2.2.1 (mC p) (lkE (readyS re2.1 (mC p)).xs 16))
set_option maxRecDepth 100000 in
theorem re1_is : re1.2.1 = [] ∧ re1.2.2 = [⟨1, 2, 0, 0, cA1, 48, [], true, 0, 0, 0, [], 0, []⟩] ∧ re1.1.ov = false := ⟨by kernel_rfl, by kernel_rfl, by kernel_rfl⟩
set_option maxRecDepth 100000 in
theorem re2_is : re2.2.1.length = 1 ∧ re2.2.2 = [] ∧ re2.1.ov = false := ⟨by kernel_rfl, by kernel_rfl, by kernel_rfl⟩
set_option maxRecDepth 100000 in
theorem re3_is (p : Sv) : (re3 p).2.1 = [] ∧ (re3 p).2.2 = [⟨1, 2, 1, 0, cB1, 33, [], true, 0, 0, 0, [], 0, []⟩] := ⟨by kernel_rfl, by kernel_rfl⟩
set_option maxRecDepth 100000 in
theorem ha1 : handleF 2 st0 [] mA = re1 := handle_is ⟨rfl, by kernel_rfl, by kernel_rfl, learn_zero (by kernel_rfl) ⟨by kernel_rfl, fun c hc h => by
  have h0 : hasE [] c.i = false := rfl
  rw [show st0.xs = [] from rfl, h0] at h; cases h⟩⟩
theorem ha2 : handleF 2 re1.1 re1.2.1 mB = re2 := handle_is ⟨re1_is.2.2, by kernel_rfl, by kernel_rfl, learn_zero (by kernel_rfl) ⟨by kernel_rfl, fun c hc h => by
  have e : c = cB1 := by simpa using hc
  subst e
  exact absurd h (by rw [show hasE re1.1.xs 17 = false by kernel_rfl]; simp)⟩⟩
theorem ha3 (p : Sv) : handleF 2 re2.1 re2.2.1 (mC p) = re3 p := handle_is ⟨re2_is.2.2, by kernel_rfl, by kernel_rfl, learn_zero (by kernel_rfl) ⟨by kernel_rfl, fun c hc h => by
  have e : c = cA1 ∨ c = cB1 := by simpa using hc
  rcases e with rfl | rfl
  · show (lookE re2.1.xs _).c = _; kernel_rfl
  · show (lookE re2.1.xs _).c = _; kernel_rfl⟩⟩
theorem iv0 : Iv st0 [] := ⟨fun y hy => by simp at hy, fun y hy => by simp at hy, fun y hy => by simp at hy, fun y hy => by simp at hy, fun i hi => by cases hi⟩
theorem iv1 : Iv re1.1 re1.2.1 := by have := (handle_p (nd := 2) iv0 (m := mA) ⟨by simp, by simp, by simp⟩).iv; rw [ha1] at this; exact this
theorem iv2 : Iv re2.1 re2.2.1 := by have := (handle_p (nd := 2) iv1 (m := mB) ⟨by simp, by simp, by simp⟩).iv; rw [ha2] at this; exact this
end Go.Proofs.YtlehcaacfgocaaaGreat
