import Derived.Test.YtlehcaacfgocaaaGreatG25
namespace Go.Proofs.YtlehcaacfgocaaaGreat
set_option linter.unusedVariables false
open Go.RowKit
open Go.Lib (hid)
open Go.Deep (blk_setCell_other nblk_setCell)
def waitF (ws : List Ms) (m : Ms) : List Ms := ws.filter (fun x => !delB m.m x.m) ++ [m]
theorem mgs_filter (ws : List Ms) (m : Mg) : (mgs ws).filter (fun x => !delB m x) = mgs (ws.filter fun x => !delB m x.m) := by
  unfold mgs
  rw [List.filter_map]; rfl
abbrev TQ (q : Nat) (wv : Value) : Nat → Prop := fun k => k = q ∨ wv.ownBlock = some k
def WaitPost (w : World) (B : Bd) (q x b b2 N : Nat) (nd : Int) (s : Sd) (wv : Value) (ws : List Ms) (e : Ending) (w' : World) : Prop := e = .returned (.tuple #[]) ∧ ∃ wv', Vo w' B q x b b2 N nd s wv' ws ∧ Tch (TQ q wv) w w' ∧ Fr w.heap.size wv wv'
theorem wp_bsM {o : Oper} {a : Act} {w : World} {K : Act → World → Prop} {Q : Exit → Act → World → Prop} {x : Operand} (m : Mg) (ho : o.op = .buildSlice 24 1 #[(0, x)]) (hx : a.eval x = .agg m.arr)
    (h : ∀ W, OM W w.heap.size m → Below w.heap.size w W → W = w.alloc (.cells m.arr 50) → K (a.put o.dst (.slice (some ⟨w.heap.size, 0, none⟩) 1 1)) W) : Oper.wp Tryz.prog o a w K Q := by
  unfold Oper.wp execOp
  simp only [ho, List.map_toArray, List.map_cons, List.map_nil, hx, Sem.run_bind, run_bs1 Tryz.underlying24 Tryz.sizeOf50 Tryz.zeroValue50 (Mg.size m) (by decide) (by decide) w, Result.andThen_ok]
  exact h _ (heap_alloc_new w _) ((Below.refl _ w).alloc (Nat.le_refl _) _) rfl
theorem wp_append_ms {ops : Array Oper} {o : Oper} {a : Act} {w : World} {K : Act → World → Prop} {Q : Exit → Act → World → Prop} (hgd : o.guard = none) (s x : Operand) (ho : o.op = .call { callee := .builtin .append, args := #[s, x], argTypes := #[24, 24] })
    (B : Nat) (v : Value) (ps : List Mg) (hs : a.eval s = v) (hown : OwnG Mg.list 20 50 w B v ps) (ad : Addr) (m c : Nat) (y : Mg) (hx : a.eval x = .slice (some ad) m c) (h2 : SlG Mg.list 20 w (.slice (some ad) m c) [y]) (hlen : ps.length ≤ 100000) (hbase : B ≤ w.heap.size)
    (h : ∀ v' w', OwnG Mg.list 20 50 w' B v' (ps ++ [y]) → w.grownBy w' v.ownBlock → Fr w.heap.size v v' → K (a.put o.dst v') w') : Oper.wp Tryz.prog o a w K Q := by
  have := step_append_ms (ops := ops) (K := K) (Q := Q) (E := True) hgd s x ho B v ps hs hown ad m c y hx h2 hlen hbase h
  rwa [if_pos (wanted_plain hgd)] at this
theorem low_row {B : Bd} {S : Nat → Prop} {w w' : World} {v : Value} {cs : List C7} (h : Sl w v cs) (hl : lowV B v cs) (ht : Tch S w w') (hS : ∀ k, S k → (∀ i, 6 ≤ i → w.cell? ⟨k, i, none⟩ = none) ∨ ¬ B.P k) : Sl w' v cs := by
  by_cases h0 : cs = []
  · subst h0; exact h.empty
  · obtain ⟨b, o, cap, a, rfl, hn, ha, hc, hb⟩ := h
    have hpos : 0 < cs.length := List.length_pos_iff.2 h0
    obtain rfl := ha hpos
    have hlo := hl _ _ _ rfl hpos
    have hns : ¬ S b := fun hs => by
      rcases hS b hs with h3 | h3
      · obtain ⟨x, xs, rfl⟩ := List.exists_cons_of_ne_nil h0
        have := hc 0 x rfl 6 (.int .i64 x.q) rfl
        rw [h3 _ (by omega)] at this
        cases this
      · exact h3 hlo
    refine ⟨b, o, cap, _, rfl, hn, ha, fun j x hx i u hu => ?_, fun h => Nat.lt_of_lt_of_le (hb h) ht.size⟩
    have := hc j x hx i u hu
    rw [World.cell?] at this ⊢
    rw [ht.block b (hb hpos) hns]; exact this
theorem Vo.awF {w : World} {B : Bd} {q x b b2 N : Nat} {nd : Int} {s : Sd} {wv v' : Value} {ws : List Ms} (h : Vo w B q x b b2 N nd s wv ws) (hF : Fr w.heap.size wv v') (hB : B.top ≤ w.heap.size) : ∀ k, v'.ownBlock = some k → ¬ B.P k := fun k hk hP => by
  obtain ⟨n, ids, hn, hv⟩ := h.ix
  rcases hF k hk with e | e
  · exact hv.aw k e hP
  · have := B.lt k hP; omega
theorem Vo.row {w w' : World} {B : Bd} {q x b b2 N : Nat} {nd : Int} {s : Sd} {wv wv' : Value} {ws ws' : List Ms} (h : Vo w B q x b b2 N nd s wv ws) (ht : Tch (TQ q wv) w w') (hob : w'.heap[q]? = some (.cells #[ptr x, wv', .bool s.ov] 59 (0, 0))) (how : OwnM w' B.lo wv' (mgs ws')) (haw : ∀ k, wv'.ownBlock = some k → ¬ B.P k) (hws : ∀ m ∈ ws', m.at w ∧ m.low B) :
    Vo w' B q x b b2 N nd s wv' ws' := by
  obtain ⟨n, ids, hn, hv⟩ := h.ix
  have hS : ∀ k, TQ q wv k → (∀ i, 6 ≤ i → w.cell? ⟨k, i, none⟩ = none) ∨ ¬ B.P k := fun k hk => by
    rcases hk with rfl | hk
    · exact .inl (hv.nocell _ (.inl rfl))
    · exact .inr (hv.aw k hk)
  refine ⟨⟨n, ids, hn, ⟨hob, hv.ix.keptT ht (fun k hk hs => ?_), how, haw⟩⟩, h.len, fun y hy => ?_, h.sh, h.cb, fun m hm => ?_, h.lo, fun m hm => (hws m hm).2⟩
  · rcases hs with rfl | hs
    · exact hv.qi hk
    · exact hv.off k hs (.inr hk)
  · have h1 := h.all y hy
    have h2 := h.lo y hy
    exact ⟨low_row h1.1 h2.1 ht hS, low_row h1.2.1 h2.2.1 ht hS, low_row h1.2.2 h2.2.2 ht hS⟩
  · have h1 := (hws m hm).1
    have h2 := (hws m hm).2
    exact ⟨low_row h1.1 h2.1 ht hS, low_row h1.2.1 h2.2.1 ht hS, low_row h1.2.2 h2.2.2 ht hS⟩
set_option maxHeartbeats 16000000 in
set_option maxRecDepth 100000 in
theorem cWaitV {w : World} {B : Bd} {q x b b2 N : Nat} {nd : Int} {s : Sd} {wv : Value} {ws : List Ms} (h : Vo w B q x b b2 N nd s wv ws) {m : Ms} (hm : m.at w) (hml : m.low B) (hl : ws.length ≤ 1000) (hBw : B.top ≤ w.heap.size) :
    Calls Tryz.prog 116 #[ptr q, .agg m.m.arr] w (WaitPost w B q x b b2 N nd s wv (waitF ws m)) := by
  have HB := hid (laid1_b w (.cells m.m.arr 50))
  have HM : Hid (OM (w.alloc (.cells m.m.arr 50)) w.heap.size m.m) := hid (laid1_0 w _)
  have HV := hid h
  have HML := hid hml
  have HMA := hid hm
  have HL := hid hl
  have HBW := hid hBw
  clear h hml hm hl hBw
  have HV0 := hid (HV.out.on HB.out)
  obtain ⟨n0, ids0, hn0, hv0⟩ := HV0.out.ix
  have HX0 := hid hv0
  have HQN := hid (show ¬ wv.ownBlock = some q from fun e => hv0.off q e (.inl rfl))
  have HPM := hid (show ¬ wv.ownBlock = some w.heap.size from fun e => by obtain ⟨n, ids, hn, hv⟩ := HV.out.ix; have := (hv.ow.lt _ e).2; omega)
  have HQM := hid (show q ≠ w.heap.size from fun e => by obtain ⟨n, ids, hn, hv⟩ := HV.out.ix; have := hv.lt; omega)
  clear hv0 hn0
  skip
  have hD := cDeleteFuncM HX0.out.ow (by unfold mgs; rw [List.length_map]; have := HL.out; omega) (delB m.m) 149 #[ptr w.heap.size] (enters_of Tryz.func149 (by kernel_rfl) rfl) (fun W y hT => cWait1 y (hT.ob HM.out HPM.out))
  have HD := hid hD
  clear hD
  obtain ⟨k0, k1, k2, z1, z2⟩ := HX0.out.cells
  go_enter Tryz.func116, Tryz.ntmps116
  go_wp2_with (first
    | (go_at_call 148; (refine HD.out.mono ?_; rintro z w1 ⟨v1, rfl, hO1, hT1, hb1⟩; obtain ⟨ga, gc, gn, rfl, hgn⟩ := OwnG.asSlice hO1; clear hgn; have HO1 := hid hO1; have HT1 := hid hT1; have HB1 := hid hb1; have HOB := hid (hT1.ob HX0.out.ob HQN.out); have k1' := (cellAt' HOB.out 1).trans rfl; have z1' := frozenAt HOB.out 1; clear hO1 hT1 hb1))
    | fail)
  have HFI : Hid (OwnM w1 B.lo (.slice ga gn gc) (mgs (ws.filter fun x => !delB m.m x.m))) := hid (by have := HO1.out; rwa [mgs_filter] at this)
  obtain ⟨fs, hfs⟩ : ∃ z, z = ws.filter fun x => !delB m.m x.m := ⟨_, rfl⟩
  rw [← hfs] at HFI
  have HFS := hid hfs
  clear hfs
  have HQ1 : Hid (¬ (Value.slice ga gn gc).ownBlock = some q) := hid (by rw [HB1.out]; exact HQN.out)
  have HM1 : Hid (OM w1 w.heap.size m.m) := hid (HT1.out.ob HM.out HPM.out)
  have HT2 : Hid (Tch (TQ q wv) w (w1.setCell ⟨q, 1, none⟩ (.slice ga gn gc))) := hid (((Tch.ofBelow HB.out).trans (HT1.out.mono fun k hk => .inr hk)).trans (Tch.ofGrown (grownSet w1 ⟨q, 1, none⟩ (.slice ga gn gc)) fun k e => .inl (Option.some.inj e).symm))
  have HO2 : Hid ((w1.setCell ⟨q, 1, none⟩ (.slice ga gn gc)).heap[q]? = some (.cells #[ptr x, (.slice ga gn gc), .bool s.ov] 59 (0, 0))) := hid (by have := setAt (j := 1) (x := (.slice ga gn gc)) HOB.out; simpa using this)
  have HW2 : Hid (OwnM (w1.setCell ⟨q, 1, none⟩ (.slice ga gn gc)) B.lo (.slice ga gn gc) (mgs fs)) := hid (own_tch HFI.out (Tch.ofGrown (S := fun k => k = q) (grownSet w1 ⟨q, 1, none⟩ (.slice ga gn gc)) fun k e => (Option.some.inj e).symm) fun k hk hs => HQ1.out (by rw [hk, hs]))
  have HM2 : Hid (OM (w1.setCell ⟨q, 1, none⟩ (.slice ga gn gc)) w.heap.size m.m) := hid (setOther HM1.out (Ne.symm HQM.out))
  generalize w1.setCell ⟨q, 1, none⟩ (.slice ga gn gc) = w2 at HT2 HO2 HW2 HM2 ⊢
  clear HO1 HT1 HOB k1' z1' HFI HM1 HD HX0 k0 k1 k2 z1 z2 HM HB
  have HP1 : Hid (¬ (Value.slice ga gn gc).ownBlock = some w.heap.size) := hid (by rw [HB1.out]; exact HPM.out)
  have HF : Hid (∀ W, Tch (fun k => (Value.slice ga gn gc).ownBlock = some k) w2 W → W.cell? ⟨q, 1, none⟩ = some (.slice ga gn gc) ∧ W.frozen? ⟨q, 1, none⟩ = false) := hid fun W hW => ⟨(cellAt' (hW.ob HO2.out HQ1.out) 1).trans rfl, frozenAt (hW.ob HO2.out HQ1.out) 1⟩
  refine rh_start (S := fun W => OM W w.heap.size m.m) (n := 11) (listed := #[false, false, false, false, false, false, false, false, false, false, false]) (by kernel_rfl) rfl rfl ?_
  have HS0 : Hid (OM w2.drew w.heap.size m.m) := hid (obDrew HM2.out)
  have HTd : Hid (Tch (fun k => (Value.slice ga gn gc).ownBlock = some k) w2 w2.drew) := hid (tch_drew w2)
  have HWd := hid (HW2.out.on (belowDrew (Below.refl _ w2)))
  generalize w2.drew = wd at HS0 HWd HTd ⊢
  refine rh_takeS (i := 0) (o := ?o1) (v := ?v1) (listed' := ?l1) (a' := ?a1) ?hi1 (by kernel_rfl) (by kernel_rfl) (by kernel_rfl) ?hq1 ?hl1 ?hw1 ?hv1 ?ha1 HS0.out ?hh1
  case hi1 => (simp only [List.getElem?_toArray, List.getElem?_cons_zero]; try rfl)
  case hq1 => exact fun _ _ _ h => h
  case hl1 => (simp only [List.setIfInBounds_toArray, List.set_cons_zero]; try rfl)
  case hw1 => rfl
  case hv1 =>
    intro W hW
    skip
    go_simp
    try with_reducible rfl
  case ha1 => (simp only [Act.put, List.setIfInBounds_toArray, List.set_cons_succ, List.set_cons_zero]; try rfl)
  refine rh_takeS (i := 1) (o := ?o2) (v := ?v2) (listed' := ?l2) (a' := ?a2) ?hi2 (by kernel_rfl) (by kernel_rfl) (by kernel_rfl) ?hq2 ?hl2 ?hw2 ?hv2 ?ha2 HS0.out ?hh2
  case hi2 => (simp only [List.getElem?_toArray, List.getElem?_cons_succ, List.getElem?_cons_zero]; try rfl)
  case hq2 => exact fun _ _ _ h => h
  case hl2 => (simp only [List.setIfInBounds_toArray, List.set_cons_succ, List.set_cons_zero]; try rfl)
  case hw2 => rfl
  case hv2 =>
    intro W hW
    skip
    go_simp
    try with_reducible rfl
  case ha2 => (simp only [Act.put, List.setIfInBounds_toArray, List.set_cons_succ, List.set_cons_zero]; try rfl)
  refine rh_takeS (i := 2) (o := ?o3) (v := ?v3) (listed' := ?l3) (a' := ?a3) ?hi3 (by kernel_rfl) (by kernel_rfl) (by kernel_rfl) ?hq3 ?hl3 ?hw3 ?hv3 ?ha3 HS0.out ?hh3
  case hi3 => (simp only [List.getElem?_toArray, List.getElem?_cons_succ, List.getElem?_cons_zero]; try rfl)
  case hq3 => exact fun _ _ _ h => h
  case hl3 => (simp only [List.setIfInBounds_toArray, List.set_cons_succ, List.set_cons_zero]; try rfl)
  case hw3 => rfl
  case hv3 =>
    intro W hW
    skip
    go_simp
    try with_reducible rfl
  case ha3 => (simp only [Act.put, List.setIfInBounds_toArray, List.set_cons_succ, List.set_cons_zero]; try rfl)
  refine rh_takeS (i := 3) (o := ?o4) (v := ?v4) (listed' := ?l4) (a' := ?a4) ?hi4 (by kernel_rfl) (by kernel_rfl) (by kernel_rfl) ?hq4 ?hl4 ?hw4 ?hv4 ?ha4 HS0.out ?hh4
  case hi4 => (simp only [List.getElem?_toArray, List.getElem?_cons_succ, List.getElem?_cons_zero]; try rfl)
  case hq4 => exact fun _ _ _ h => h
  case hl4 => (simp only [List.setIfInBounds_toArray, List.set_cons_succ, List.set_cons_zero]; try rfl)
  case hw4 => rfl
  case hv4 =>
    intro W hW
    skip
    go_simp
    try with_reducible rfl
  case ha4 => (simp only [Act.put, List.setIfInBounds_toArray, List.set_cons_succ, List.set_cons_zero]; try rfl)
  refine rh_load (i := 5) (o := ?o5) (cs := m.m.list) (T := 50) (x := ?x5) (b := ?b5) (q := ?q5) (listed' := ?l5) (a' := ?a5) ?hi5 (by kernel_rfl) (by kernel_rfl) (by kernel_rfl) ?hq5 ?hl5 ?hg5 ?ho5 ?hx5 ?hc5 Tryz.underlying50 rfl (infoM m.m) ?ha5 HS0.out ?hh5
  case hi5 => (simp only [List.getElem?_toArray, List.getElem?_cons_succ, List.getElem?_cons_zero]; try rfl)
  case hq5 => exact fun _ _ _ h => h
  case hl5 => (simp only [List.setIfInBounds_toArray, List.set_cons_succ, List.set_cons_zero]; try rfl)
  case hg5 => rfl
  case ho5 => rfl
  case hx5 => rfl
  case hc5 => exact fun W hW => OM.range hW
  case ha5 => (show Act.put _ _ (Value.agg m.m.arr) = _); (simp only [Act.put, List.setIfInBounds_toArray, List.set_cons_succ, List.set_cons_zero]; try rfl)
  refine wpAnyH_ready (rs := [4, 6]) (by kernel_rfl) (by simp) ?_
  refine rh_cons (i := 4) (o := ?o6) (listed' := ?l6) ?hi6 ?hl6 ?hg6 ?hh6 ?hs6
  case hi6 => (simp only [List.getElem?_toArray, List.getElem?_cons_succ, List.getElem?_cons_zero]; try rfl)
  case hl6 => (simp only [List.setIfInBounds_toArray, List.set_cons_succ, List.set_cons_zero]; try rfl)
  case hg6 => rfl
  case hh6 =>
    intro K hK
    obtain ⟨k1, z1⟩ := HF.out _ HTd.out
    go_simp
    refine hK.out _ _ HS0.out ?_
    clear hK K
    refine wpAnyH_ready (rs := [6]) (by kernel_rfl) (by simp) ?_
    refine rh_cons (i := 6) (o := ?o7) (listed' := ?l7) ?hi7 ?hl7 ?hg7 ?hh7 ?hs7
    case hi7 => (simp only [List.getElem?_toArray, List.getElem?_cons_succ, List.getElem?_cons_zero]; try rfl)
    case hl7 => (simp only [List.setIfInBounds_toArray, List.set_cons_succ, List.set_cons_zero]; try rfl)
    case hg7 => rfl
    case hs7 => exact AllReadyH.nil
    intro K hK
    refine wp_bsM m.m rfl rfl ?_
    intro wa hO hB hWa
    have HTa := hid (HTd.out.trans (Tch.ofBelow hB))
    have HWa := hid (HWd.out.on hB)
    have HOa := hid hO
    have HMa : Hid (OM wa w.heap.size m.m) := hid (HTa.out.ob HM2.out HP1.out)
    clear hO hB hWa
    refine hK.out _ _ HMa.out ?_
    clear hK K
    refine wpAnyH_ready (rs := [7]) (by kernel_rfl) (by simp) ?_
    refine rh_cons (i := 7) (o := ?o8) (listed' := ?l8) ?hi8 ?hl8 ?hg8 ?hh8 ?hs8
    case hi8 => (simp only [List.getElem?_toArray, List.getElem?_cons_succ, List.getElem?_cons_zero]; try rfl)
    case hl8 => (simp only [List.setIfInBounds_toArray, List.set_cons_succ, List.set_cons_zero]; try rfl)
    case hg8 => rfl
    case hs8 => exact AllReadyH.nil
    intro K hK
    refine wp_append_ms (ops := #[]) ?agwa (.tmp 17) (.tmp 19) ?aowa B.lo (.slice ga gn gc) (mgs fs) ?eswa HWa.out ⟨wd.heap.size, 0, none⟩ 1 1 m.m ?exwa (OM.sl HOa.out 1) ?elwa ?ebwa ?ehwa
    case agwa => rfl
    case aowa => rfl
    case eswa => rfl
    case exwa => rfl
    case elwa => unfold mgs; rw [List.length_map, HFS.out]; have := List.length_filter_le (fun x => !delB m.m x.m) ws; have := HL.out; omega
    case ebwa => have := HTa.out.size; have := HT2.out.size; have := HBW.out; have := B.le; omega
    case ehwa =>
      intro v2 wb ho2 hg2 hf2
      obtain ⟨ga2, gc2, gn2, rfl, hgn2⟩ := OwnG.asSlice ho2
      have HTb : Hid (Tch (fun k => (Value.slice ga gn gc).ownBlock = some k) w2 wb) := hid (HTa.out.trans (Tch.ofGrown hg2 fun k e => e))
      have HOb := hid ho2
      have HFb := hid hf2
      have HMb : Hid (OM wb w.heap.size m.m) := hid (HTb.out.ob HM2.out HP1.out)
      clear ho2 hg2 hf2 hgn2
      refine hK.out _ _ HMb.out ?_
      clear hK K
      refine rh_takeS (i := 8) (o := ?o9) (v := ?v9) (listed' := ?l9) (a' := ?a9) ?hi9 (by kernel_rfl) (by kernel_rfl) (by kernel_rfl) ?hq9 ?hl9 ?hw9 ?hv9 ?ha9 HMb.out ?hh9
      case hi9 => (simp only [List.getElem?_toArray, List.getElem?_cons_succ, List.getElem?_cons_zero]; try rfl)
      case hq9 => exact fun _ _ _ h => h
      case hl9 => (simp only [List.setIfInBounds_toArray, List.set_cons_succ, List.set_cons_zero]; try rfl)
      case hw9 => rfl
      case hv9 =>
        intro W hW
        skip
        go_simp
        try with_reducible rfl
      case ha9 => (simp only [Act.put, List.setIfInBounds_toArray, List.set_cons_succ, List.set_cons_zero]; try rfl)
      refine rh_takeS (i := 9) (o := ?o10) (v := ?v10) (listed' := ?l10) (a' := ?a10) ?hi10 (by kernel_rfl) (by kernel_rfl) (by kernel_rfl) ?hq10 ?hl10 ?hw10 ?hv10 ?ha10 HMb.out ?hh10
      case hi10 => (simp only [List.getElem?_toArray, List.getElem?_cons_succ, List.getElem?_cons_zero]; try rfl)
      case hq10 => exact fun _ _ _ h => h
      case hl10 => (simp only [List.setIfInBounds_toArray, List.set_cons_succ, List.set_cons_zero]; try rfl)
      case hw10 => rfl
      case hv10 =>
        intro W hW
        skip
        go_simp
        try with_reducible rfl
      case ha10 => (simp only [Act.put, List.setIfInBounds_toArray, List.set_cons_succ, List.set_cons_zero]; try rfl)
      refine wpAnyH_ready (rs := [10]) (by kernel_rfl) (by simp) ?_
      refine rh_cons (i := 10) (o := ?o11) (listed' := ?l11) ?hi11 ?hl11 ?hg11 ?hh11 ?hs11
      case hi11 => (simp only [List.getElem?_toArray, List.getElem?_cons_succ, List.getElem?_cons_zero]; try rfl)
      case hl11 => (simp only [List.setIfInBounds_toArray, List.set_cons_succ, List.set_cons_zero]; try rfl)
      case hg11 => rfl
      case hs11 => exact AllReadyH.nil
      intro K hK
      obtain ⟨k1, z1⟩ := HF.out _ HTb.out
      go_simp
      have HFq : Hid (¬ (Value.slice ga2 gn2 gc2).ownBlock = some q) := hid (fun e => by
        rcases HFb.out q e with e1 | e1
        · exact HQ1.out e1
        · have h1 := (Array.getElem?_eq_some_iff.1 HO2.out).1; have h2 := HTa.out.size; omega)
      refine hK.out _ _ (setOther HMb.out (Ne.symm HQM.out)) ?_
      clear hK K
      refine wpAnyH_done (by kernel_rfl) ?_ _
      go_wp2_with fail
      have hT3 : Tch (TQ q wv) w (wb.setCell ⟨q, 1, none⟩ (.slice ga2 gn2 gc2)) := (HT2.out.trans (HTb.out.mono fun k hk => .inr (by rw [← HB1.out]; exact hk))).trans (Tch.ofGrown (grownSet wb ⟨q, 1, none⟩ (.slice ga2 gn2 gc2)) fun k e => .inl (Option.some.inj e).symm)
      have hob : (wb.setCell ⟨q, 1, none⟩ (.slice ga2 gn2 gc2)).heap[q]? = some (.cells #[ptr x, .slice ga2 gn2 gc2, .bool s.ov] 59 (0, 0)) := by have := setAt (j := 1) (x := .slice ga2 gn2 gc2) (HTb.out.ob HO2.out HQ1.out); simpa using this
      have how : OwnM (wb.setCell ⟨q, 1, none⟩ (.slice ga2 gn2 gc2)) B.lo (.slice ga2 gn2 gc2) (mgs (waitF ws m)) := by
        have h1 : OwnM wb B.lo (.slice ga2 gn2 gc2) (mgs (waitF ws m)) := by have := HOb.out; unfold waitF mgs; rw [List.map_append, ← HFS.out]; exact this
        exact own_tch h1 (Tch.ofGrown (S := fun k => k = q) (grownSet wb ⟨q, 1, none⟩ (.slice ga2 gn2 gc2)) fun k e => (Option.some.inj e).symm) fun k hk hs => HFq.out (by rw [hk, hs])
      have hFr : Fr w.heap.size wv (.slice ga2 gn2 gc2) := fun k hk => by
        rcases HFb.out k hk with e1 | e1
        · exact .inl (by rw [← HB1.out]; exact e1)
        · exact .inr (by have := HT2.out.size; have := HTa.out.size; omega)
      have hV := (HV.out.row hT3 hob how (HV.out.awF hFr HBW.out) (fun y hy => by
        unfold waitF at hy
        rcases List.mem_append.1 hy with hy | hy
        · exact ⟨HV.out.wa y (List.mem_filter.1 hy).1, HV.out.wl y (List.mem_filter.1 hy).1⟩
        · rw [List.mem_singleton] at hy; subst hy; exact ⟨HMA.out, HML.out⟩))
      go_end0
      exact ⟨rfl, _, hV, hT3, hFr⟩
  refine rh_cons (i := 6) (o := ?o12) (listed' := ?l12) ?hi12 ?hl12 ?hg12 ?hh12 ?hs12
  case hi12 => (simp only [List.getElem?_toArray, List.getElem?_cons_succ, List.getElem?_cons_zero]; try rfl)
  case hl12 => (simp only [List.setIfInBounds_toArray, List.set_cons_succ, List.set_cons_zero]; try rfl)
  case hg12 => rfl
  case hs12 => exact AllReadyH.nil
  intro K hK
  refine wp_bsM m.m rfl rfl ?_
  intro wa hO hB hWa
  have HTa := hid (HTd.out.trans (Tch.ofBelow hB))
  have HWa := hid (HWd.out.on hB)
  have HOa := hid hO
  have HMa : Hid (OM wa w.heap.size m.m) := hid (HTa.out.ob HM2.out HP1.out)
  clear hO hB hWa
  refine hK.out _ _ HMa.out ?_
  clear hK K
  refine wpAnyH_ready (rs := [4]) (by kernel_rfl) (by simp) ?_
  refine rh_cons (i := 4) (o := ?o13) (listed' := ?l13) ?hi13 ?hl13 ?hg13 ?hh13 ?hs13
  case hi13 => (simp only [List.getElem?_toArray, List.getElem?_cons_succ, List.getElem?_cons_zero]; try rfl)
  case hl13 => (simp only [List.setIfInBounds_toArray, List.set_cons_succ, List.set_cons_zero]; try rfl)
  case hg13 => rfl
  case hs13 => exact AllReadyH.nil
  intro K hK
  obtain ⟨k1, z1⟩ := HF.out _ HTa.out
  go_simp
  refine hK.out _ _ HMa.out ?_
  clear hK K
  refine wpAnyH_ready (rs := [7]) (by kernel_rfl) (by simp) ?_
  refine rh_cons (i := 7) (o := ?o14) (listed' := ?l14) ?hi14 ?hl14 ?hg14 ?hh14 ?hs14
  case hi14 => (simp only [List.getElem?_toArray, List.getElem?_cons_succ, List.getElem?_cons_zero]; try rfl)
  case hl14 => (simp only [List.setIfInBounds_toArray, List.set_cons_succ, List.set_cons_zero]; try rfl)
  case hg14 => rfl
  case hs14 => exact AllReadyH.nil
  intro K hK
  refine wp_append_ms (ops := #[]) ?agwa (.tmp 17) (.tmp 19) ?aowa B.lo (.slice ga gn gc) (mgs fs) ?eswa HWa.out ⟨wd.heap.size, 0, none⟩ 1 1 m.m ?exwa (OM.sl HOa.out 1) ?elwa ?ebwa ?ehwa
  case agwa => rfl
  case aowa => rfl
  case eswa => rfl
  case exwa => rfl
  case elwa => unfold mgs; rw [List.length_map, HFS.out]; have := List.length_filter_le (fun x => !delB m.m x.m) ws; have := HL.out; omega
  case ebwa => have := HTa.out.size; have := HT2.out.size; have := HBW.out; have := B.le; omega
  case ehwa =>
    intro v2 wb ho2 hg2 hf2
    obtain ⟨ga2, gc2, gn2, rfl, hgn2⟩ := OwnG.asSlice ho2
    have HTb : Hid (Tch (fun k => (Value.slice ga gn gc).ownBlock = some k) w2 wb) := hid (HTa.out.trans (Tch.ofGrown hg2 fun k e => e))
    have HOb := hid ho2
    have HFb := hid hf2
    have HMb : Hid (OM wb w.heap.size m.m) := hid (HTb.out.ob HM2.out HP1.out)
    clear ho2 hg2 hf2 hgn2
    refine hK.out _ _ HMb.out ?_
    clear hK K
    refine rh_takeS (i := 8) (o := ?o15) (v := ?v15) (listed' := ?l15) (a' := ?a15) ?hi15 (by kernel_rfl) (by kernel_rfl) (by kernel_rfl) ?hq15 ?hl15 ?hw15 ?hv15 ?ha15 HMb.out ?hh15
    case hi15 => (simp only [List.getElem?_toArray, List.getElem?_cons_succ, List.getElem?_cons_zero]; try rfl)
    case hq15 => exact fun _ _ _ h => h
    case hl15 => (simp only [List.setIfInBounds_toArray, List.set_cons_succ, List.set_cons_zero]; try rfl)
    case hw15 => rfl
    case hv15 =>
      intro W hW
      skip
      go_simp
      try with_reducible rfl
    case ha15 => (simp only [Act.put, List.setIfInBounds_toArray, List.set_cons_succ, List.set_cons_zero]; try rfl)
    refine rh_takeS (i := 9) (o := ?o16) (v := ?v16) (listed' := ?l16) (a' := ?a16) ?hi16 (by kernel_rfl) (by kernel_rfl) (by kernel_rfl) ?hq16 ?hl16 ?hw16 ?hv16 ?ha16 HMb.out ?hh16
    case hi16 => (simp only [List.getElem?_toArray, List.getElem?_cons_succ, List.getElem?_cons_zero]; try rfl)
    case hq16 => exact fun _ _ _ h => h
    case hl16 => (simp only [List.setIfInBounds_toArray, List.set_cons_succ, List.set_cons_zero]; try rfl)
    case hw16 => rfl
    case hv16 =>
      intro W hW
      skip
      go_simp
      try with_reducible rfl
    case ha16 => (simp only [Act.put, List.setIfInBounds_toArray, List.set_cons_succ, List.set_cons_zero]; try rfl)
    refine wpAnyH_ready (rs := [10]) (by kernel_rfl) (by simp) ?_
    refine rh_cons (i := 10) (o := ?o17) (listed' := ?l17) ?hi17 ?hl17 ?hg17 ?hh17 ?hs17
    case hi17 => (simp only [List.getElem?_toArray, List.getElem?_cons_succ, List.getElem?_cons_zero]; try rfl)
    case hl17 => (simp only [List.setIfInBounds_toArray, List.set_cons_succ, List.set_cons_zero]; try rfl)
    case hg17 => rfl
    case hs17 => exact AllReadyH.nil
    intro K hK
    obtain ⟨k1, z1⟩ := HF.out _ HTb.out
    go_simp
    have HFq : Hid (¬ (Value.slice ga2 gn2 gc2).ownBlock = some q) := hid (fun e => by
      rcases HFb.out q e with e1 | e1
      · exact HQ1.out e1
      · have h1 := (Array.getElem?_eq_some_iff.1 HO2.out).1; have h2 := HTa.out.size; omega)
    refine hK.out _ _ (setOther HMb.out (Ne.symm HQM.out)) ?_
    clear hK K
    refine wpAnyH_done (by kernel_rfl) ?_ _
    go_wp2_with fail
    have hT3 : Tch (TQ q wv) w (wb.setCell ⟨q, 1, none⟩ (.slice ga2 gn2 gc2)) := (HT2.out.trans (HTb.out.mono fun k hk => .inr (by rw [← HB1.out]; exact hk))).trans (Tch.ofGrown (grownSet wb ⟨q, 1, none⟩ (.slice ga2 gn2 gc2)) fun k e => .inl (Option.some.inj e).symm)
    have hob : (wb.setCell ⟨q, 1, none⟩ (.slice ga2 gn2 gc2)).heap[q]? = some (.cells #[ptr x, .slice ga2 gn2 gc2, .bool s.ov] 59 (0, 0)) := by have := setAt (j := 1) (x := .slice ga2 gn2 gc2) (HTb.out.ob HO2.out HQ1.out); simpa using this
    have how : OwnM (wb.setCell ⟨q, 1, none⟩ (.slice ga2 gn2 gc2)) B.lo (.slice ga2 gn2 gc2) (mgs (waitF ws m)) := by
      have h1 : OwnM wb B.lo (.slice ga2 gn2 gc2) (mgs (waitF ws m)) := by have := HOb.out; unfold waitF mgs; rw [List.map_append, ← HFS.out]; exact this
      exact own_tch h1 (Tch.ofGrown (S := fun k => k = q) (grownSet wb ⟨q, 1, none⟩ (.slice ga2 gn2 gc2)) fun k e => (Option.some.inj e).symm) fun k hk hs => HFq.out (by rw [hk, hs])
    have hFr : Fr w.heap.size wv (.slice ga2 gn2 gc2) := fun k hk => by
      rcases HFb.out k hk with e1 | e1
      · exact .inl (by rw [← HB1.out]; exact e1)
      · exact .inr (by have := HT2.out.size; have := HTa.out.size; omega)
    have hV := (HV.out.row hT3 hob how (HV.out.awF hFr HBW.out) (fun y hy => by
      unfold waitF at hy
      rcases List.mem_append.1 hy with hy | hy
      · exact ⟨HV.out.wa y (List.mem_filter.1 hy).1, HV.out.wl y (List.mem_filter.1 hy).1⟩
      · rw [List.mem_singleton] at hy; subst hy; exact ⟨HMA.out, HML.out⟩))
    go_end0
    exact ⟨rfl, _, hV, hT3, hFr⟩
end Go.Proofs.YtlehcaacfgocaaaGreat
