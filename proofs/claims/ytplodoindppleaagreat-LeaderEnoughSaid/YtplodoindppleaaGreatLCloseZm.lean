import Derived.Test.YtplodoindppleaaGreatG19
import Derived.Test.YtplodoindppleaaGreatG22
namespace Go.Proofs.YtplodoindppleaaGreat
set_option linter.unusedVariables false
open Go.RowKit
open Go.Lib (hid)
theorem ofL2_len (cs : List C7) : (ofL2 cs).length ≤ 1024 := by
 unfold ofL2
 split
 · exact Nat.zero_le _
 · rename_i h
   by_cases h0 : ofE cs = 0
   · omega
   · unfold ofE at h0
     unfold ofL
     split
     · split
       · exact Nat.zero_le _
       · rename_i h1 h2
         rw [if_pos h1, if_neg h2] at h0
         exact absurd rfl h0
     · exact Nat.zero_le _
theorem freshL_len (ls : List Ms) : (freshL ls).length ≤ 1024 := by
 unfold freshL
 split
 · exact ofL2_len _
 · exact Nat.zero_le _
theorem frE_an (ls : List Ms) : frE (ls.map Ms.an) = freshE ls := by unfold frE; rw [nm_map, freshE_nm]
theorem frT_an (ls : List Ms) : frT (ls.map Ms.an) = freshT ls := by unfold frT; rw [nm_map, freshT_nm]
theorem frL_an (ls : List Ms) : frL (ls.map Ms.an) = freshL ls := by unfold frL; rw [nm_map, freshL_nm]
theorem refL_an (x : Ax) : refL x.att = (saidM [2] x.rs).map Ms.an := (saidM_an [2] x.rs).symm
theorem okL_an (x : Ax) : okL x.att = (saidM [1] x.rs).map Ms.an := (saidM_an [1] x.rs).symm
set_option maxHeartbeats 4000000 in
set_option maxRecDepth 100000 in
theorem cCloseAll {w : World} {B q b n p : Nat} {nd N : Int} {f : Int → Option Nat} {x : Ax} (hL : Lq w B q b n nd N f) (hA : Ap w B p x) (hN : 3 ≤ N ∧ N ≤ 9) (hB : B ≤ w.heap.size) (hz : Sz 38 x) : Calls Tryz.prog 57 #[ptr q, ptr p] w (ActP w B q b n nd N f p x (closAllF nd N x.att)) := by
 have HL := hid hL
 have HA := hid hA
 have HZ := hid hz
 have HNN := hid hN
 have hU := cUnionL (mp := zS) (ml := []) hA hz.len hz.vl (fun m hm => (hz.sh m hm).1) (Own.nil w 0).sl (Nat.zero_le _)
 unfold closAllF
 obtain ⟨U, hUe⟩ : ∃ z, z = uniL x.att [] := ⟨_, rfl⟩
 rw [← hUe] at hU ⊢
 clear hUe hL hA hz
 obtain ⟨e2, he2⟩ : ∃ z, z = ofE2 U := ⟨_, rfl⟩
 rw [← he2] at hU ⊢
 clear he2
 go_enter Tryz.func57, Tryz.ntmps57
 by_cases h0 : e2 = 0
 · rw [if_pos h0]
   have hzb : (e2 != 0) = false := by simp [h0]
   go_wp2_with (first
    | (go_at_call 85; refine hU.mono ?_; rintro e w1 ⟨r, rfl, ho, hb⟩; obtain ⟨ra, rc, rn, rfl, hrn⟩ := Own.asSlice ho; have HO1 := hid ho; have HB1 := hid hb; have HL1 := hid (HL.out.on hb); have HA1 := hid (HA.out.on hb); have c9 := HA1.out.cells.2.2.1; have hcw := cCloseWith HL1.out HA1.out HNN.out (Nat.le_trans hB HB1.out.size) (vt := x.vt) (vp := ⟨ra, rn, rc⟩) (Own.setD HO1.out).setC (ofL2_len U); clear ho hb hrn hU)
    | (go_at_call 86; refine hcw.mono ?_; intro e w2 h2; have H2 := hid h2; obtain ⟨v, ls, rfl, h3⟩ := h2; have H3 := hid h3; clear h3 hcw)
    | fail)
   go_ret
   exact H2.out.from (Tch.ofBelow HB1.out) rfl (fun k hk => .inl hk)
 · rw [if_neg h0]
   have hzb : (e2 != 0) = true := by simpa using h0
   go_wp2_with (first
    | (go_at_call 85; refine hU.mono ?_; rintro e w1 ⟨r, rfl, ho, hb⟩; obtain ⟨ra, rc, rn, rfl, hrn⟩ := Own.asSlice ho; have HO1 := hid ho; have HB1 := hid hb; have HL1 := hid (HL.out.on hb); have HA1 := hid (HA.out.on hb); have hlv := cLeaveA HL1.out HA1.out HZ.out.wf; clear ho hb hrn hU)
    | (go_at_call 34; refine hlv.mono ?_; intro e w2 h2; have H2 := hid h2; obtain ⟨v, ls, rfl, h3⟩ := h2; have H3 := hid h3; clear h3 hlv)
    | fail)
   go_ret
   exact H2.out.from (Tch.ofBelow HB1.out) rfl (fun k hk => .inl hk)
set_option maxHeartbeats 4000000 in
set_option maxRecDepth 100000 in
theorem cProposeFree {w : World} {B q b n p : Nat} {nd N : Int} {f : Int → Option Nat} {x : Ax} (hL : Lq w B q b n nd N f) (hA : Ap w B p x) (hN : 3 ≤ N ∧ N ≤ 9) (hB : B ≤ w.heap.size) (hz : Sz 38 x) {vt : Int} {vp : Sv} {vl : List C7} (e0 : Int) (hv : e0 = 0 → SetC B w vp.v vl) (hvl : vl.length ≤ 1024) : Calls Tryz.prog 88 #[ptr q, ptr p, .agg (varr vt vp), .int .i64 e0] w (ActP w B q b n nd N f p x (freeF nd N x.att vt vl e0)) := by
 have HB0 : Hid (Below w.heap.size w (w.alloc (.cells (varr vt vp) 34))) := hid (laid1_b w _)
 have HO0 : Hid (OV (w.alloc (.cells (varr vt vp) 34)) w.heap.size vt vp) := hid (laid1_0 w _)
 have HL := hid (hL.on HB0.out)
 have HA := hid (hA.on HB0.out)
 have HV := hid (fun h0 => (hv h0).on HB0.out)
 have HVL := hid hvl
 have HNN := hid hN
 have HZ := hid hz
 have HBB := hid (Nat.le_trans hB HB0.out.size)
 clear hL hA hv hvl hz
 unfold freeF
 go_enter Tryz.func88, Tryz.ntmps88
 by_cases h0 : e0 = 0
 · rw [if_pos h0]
   have hzb : (e0 != 0) = false := by simp [h0]
   have hpr := cPropose HL.out HA.out HNN.out HBB.out (by have := HZ.out.len; omega) (vt := vt) false (HV.out h0) HVL.out
   go_wp2_with (first
    | ((with_reducible refine loadVl (x := ?vx1) (b := w.heap.size) (o := 0) vt vp ?vg1 ?vo1 ?vxx1 ?vc1 ?_); (case vg1 => rfl); (case vo1 => rfl); (case vxx1 => rfl); (case vc1 => exact HO0.out.range))
    | (go_at_call 104; refine hpr.mono ?_; intro e w2 h2; have H2 := hid h2; obtain ⟨v, ls, rfl, h3⟩ := h2; have H3 := hid h3; clear h3 hpr)
    | fail)
   go_ret
   exact H2.out.from (Tch.ofBelow HB0.out) rfl (fun k hk => .inl hk)
 · rw [if_neg h0]
   have hzb : (e0 != 0) = true := by simpa using h0
   have hlv := cLeaveA HL.out HA.out HZ.out.wf
   go_wp2_with (first
    | (go_at_call 34; refine hlv.mono ?_; intro e w2 h2; have H2 := hid h2; obtain ⟨v, ls, rfl, h3⟩ := h2; have H3 := hid h3; clear h3 hlv)
    | fail)
   go_ret
   exact H2.out.from (Tch.ofBelow HB0.out) rfl (fun k hk => .inl hk)
set_option maxHeartbeats 4000000 in
set_option maxRecDepth 100000 in
theorem cRaise {w : World} {B q b n p : Nat} {nd N : Int} {f : Int → Option Nat} {x : Ax} (hL : Lq w B q b n nd N f) (hA : Ap w B p x) (hN : 3 ≤ N ∧ N ≤ 9) (hB : B ≤ w.heap.size) (hz : Sz 38 x) : Calls Tryz.prog 58 #[ptr q, ptr p] w (ActP w B q b n nd N f p x (raiseF nd N x.att)) := by
 have HL := hid hL
 have HA := hid hA
 have HZ := hid hz
 have HNN := hid hN
 have HBB := hid hB
 have HQ : Hid (Below w.heap.size w (w.alloc (.cells #[.int .i64 2] 46))) := hid (laid1_b w _)
 have hsd := cSaid (cap := 1) (hA.on HQ.out) (by have := hz.len; omega) (sor1 w 2) (by simp) (by decide)
 unfold raiseF
 rw [refL_an, frE_an, frT_an, frL_an]
 obtain ⟨R, hR⟩ : ∃ z, z = saidM [2] x.rs := ⟨_, rfl⟩
 rw [← hR] at hsd ⊢
 have HRM := hid (show ∀ m ∈ R, m ∈ x.rs from fun m hm => saidM_mem (by rw [← hR]; exact hm))
 have HRL := hid (show R.length ≤ 38 by rw [hR]; exact Nat.le_trans (saidM_len _ _) hz.len)
 clear hR hL hA hz hN hB
 obtain ⟨e1, he1⟩ : ∃ z, z = freshE R := ⟨_, rfl⟩
 have HE1 := hid he1
 rw [← he1]
 clear he1
 go_enter Tryz.func58, Tryz.ntmps58
 by_cases h0 : e1 = 0
 · as_aux_lemma =>
    rw [if_pos h0]
    have h00 := h0
    obtain ⟨U, hUe⟩ : ∃ z, z = uniL x.att (freshL R) := ⟨_, rfl⟩
    rw [← hUe]
    have HUE := hid hUe
    clear hUe
    obtain ⟨e2, he2⟩ : ∃ z, z = ofE2 U := ⟨_, rfl⟩
    have HE2 := hid he2
    rw [← he2]
    clear he2
    have hzb : (e1 == 0) = true := by simp [h0]
    go_upto_region 4 with (first
     | (go_at_call 56; refine hsd.mono ?_; rintro e w1 ⟨v0, rfl, ho, hb⟩; obtain ⟨ra, rc, rn, rfl, hrn⟩ := OwnG.asSlice ho; clear hrn; have HR1 := hid ho; have HB1 : Hid (Below w.heap.size w w1) := hid (HQ.out.trans (hb.mono HQ.out.size)); have hfr := cFresh (OwnG.slG kM ho) (fun m hm => ((HA.out.on HB1.out).rs m (HRM.out m hm)).at) (fun m hm => HZ.out.sh m (HRM.out m hm)) (by have := HRL.out; omega); clear ho hb hsd)
     | (go_at_call 87; refine hfr.mono ?_; rintro e w2 ⟨⟨fa, fn, fc⟩, rfl, hs, hb⟩; rw [← HE1.out]; have HS2 := hid hs; have HB2 : Hid (Below w.heap.size w w2) := hid (HB1.out.trans (hb.mono HB1.out.size)); clear hs hb hfr)
     | ((with_reducible refine storeV (x := ?wx2) (y := ?wy2) (b := w2.heap.size) (freshT R) ⟨fa, fn, fc⟩ ?wg2 ?wo2 ?wxx2 ?wyy2 ?wc2 ?wh2); (case wg2 => rfl); (case wo2 => rfl); (case wxx2 => rfl); (case wyy2 => rfl); (case wc2 => exact roomVZ w2); intro w3 hO hU; have HO3 : Hid (OV w3 w2.heap.size (freshT R) ⟨fa, fn, fc⟩) := hid hO; have HB23 : Hid (Below w2.heap.size w2 w3) := hid ((laid1_b w2 zeroVc).trans (hU.below w2.heap.size (Nat.le_refl _))); have HB3 : Hid (Below w.heap.size w w3) := hid (HB2.out.trans (HB23.out.mono HB2.out.size)); have HS3 := hid (HS2.out.on HB23.out); have HL3 := hid (HL.out.on HB3.out); have HA3 := hid (HA.out.on HB3.out); have c1 : w3.cell? ⟨w2.heap.size, 1, none⟩ = some (.slice fa fn fc) := HO3.out.cells.2.1; have hUn := cUnionL (mp := ⟨fa, fn, fc⟩) (ml := freshL R) HA3.out HZ.out.len HZ.out.vl (fun m hm => (HZ.out.sh m hm).1) HS3.out.1 (freshL_len R); rw [← HUE.out, ← HE2.out] at hUn; clear hO hU)
     | (go_at_call 85; refine hUn.mono ?_; rintro e w4 ⟨r, rfl, ho, hb⟩; obtain ⟨ua, uc, un, rfl, hrn⟩ := Own.asSlice ho; have HO4 := hid ho; have HB4 : Hid (Below w.heap.size w w4) := hid (HB3.out.trans (hb.mono HB3.out.size)); have HOV4 := hid (HO3.out.on hb); have c1' := HOV4.out.cells.2.1; have f1' := HOV4.out.cells.2.2.2; clear ho hb hrn hUn)
     | fail)
    obtain ⟨W5, hW5⟩ : ∃ z, z = w4.setCell ⟨w2.heap.size, 1, none⟩ (.slice ua un uc) := ⟨_, rfl⟩
    rw [← hW5]
    have HOV5 : Hid (OV W5 w2.heap.size (freshT R) ⟨ua, un, uc⟩) := hid (by rw [hW5]; exact HOV4.out.setP ⟨ua, un, uc⟩)
    have HQ5 : Hid (w.heap.size ≤ w2.heap.size) := hid HB2.out.size
    have HB5 : Hid (Below w.heap.size w W5) := hid (by rw [hW5]; exact setV_below HB4.out HB4.out.size HQ5.out)
    have HT5 : Hid (Tch (fun k => k = w2.heap.size) w4 W5) := hid (by rw [hW5]; exact setV_tch w4 w2.heap.size 1 _)
    have HS5 : Hid (SetD W5 (Sv.v ⟨ua, un, uc⟩) (ofL2 U)) := hid ((Own.setD HO4.out).tch HT5.out (fun k e cur fz h => by subst e; rw [HOV4.out] at h; injection h with h; injection h with _ e; exact absurd e (by decide)))
    clear hW5 c1' f1'
    have hpf := cProposeFree (HL.out.on HB5.out) (HA.out.on HB5.out) HNN.out (Nat.le_trans HBB.out HB5.out.size) HZ.out (vt := freshT R) e2 (fun _ => HS5.out.setC) (ofL2_len U)
    go_wp2_with (first
     | ((with_reducible refine loadVl (x := ?vx3) (b := w2.heap.size) (o := 0) (freshT R) ⟨ua, un, uc⟩ ?vg3 ?vo3 ?vxx3 ?vc3 ?_); (case vg3 => rfl); (case vo3 => rfl); (case vxx3 => rfl); (case vc3 => exact HOV5.out.range))
     | (go_at_call 88; refine hpf.mono ?_; intro e w6 h2; have H2 := hid h2; obtain ⟨v, ls, rfl, h3⟩ := h2; have H3 := hid h3; clear h3 hpf)
     | fail)
    go_ret
    exact H2.out.from (Tch.ofBelow HB5.out) rfl (fun k hk => .inl hk)
 · as_aux_lemma =>
    rw [if_neg h0]
    have hzb : (e1 == 0) = false := by simp [h0]
    go_wp2_with (first
     | (go_at_call 56; refine hsd.mono ?_; rintro e w1 ⟨v0, rfl, ho, hb⟩; obtain ⟨ra, rc, rn, rfl, hrn⟩ := OwnG.asSlice ho; clear hrn; have HR1 := hid ho; have HB1 : Hid (Below w.heap.size w w1) := hid (HQ.out.trans (hb.mono HQ.out.size)); have hfr := cFresh (OwnG.slG kM ho) (fun m hm => ((HA.out.on HB1.out).rs m (HRM.out m hm)).at) (fun m hm => HZ.out.sh m (HRM.out m hm)) (by have := HRL.out; omega); clear ho hb hsd)
     | (go_at_call 87; refine hfr.mono ?_; rintro e w2 ⟨⟨fa, fn, fc⟩, rfl, hs, hb⟩; rw [← HE1.out]; have HS2 := hid hs; have HB2 : Hid (Below w.heap.size w w2) := hid (HB1.out.trans (hb.mono HB1.out.size)); clear hs hb hfr)
     | ((with_reducible refine storeV (x := ?wx4) (y := ?wy4) (b := w2.heap.size) (freshT R) ⟨fa, fn, fc⟩ ?wg4 ?wo4 ?wxx4 ?wyy4 ?wc4 ?wh4); (case wg4 => rfl); (case wo4 => rfl); (case wxx4 => rfl); (case wyy4 => rfl); (case wc4 => exact roomVZ w2); intro w3 hO hU; have HO3 : Hid (OV w3 w2.heap.size (freshT R) ⟨fa, fn, fc⟩) := hid hO; have HB23 : Hid (Below w2.heap.size w2 w3) := hid ((laid1_b w2 zeroVc).trans (hU.below w2.heap.size (Nat.le_refl _))); have HB3 : Hid (Below w.heap.size w w3) := hid (HB2.out.trans (HB23.out.mono HB2.out.size)); have HS3 := hid (HS2.out.on HB23.out); have HL3 := hid (HL.out.on HB3.out); have HA3 := hid (HA.out.on HB3.out); have hpf := cProposeFree HL3.out HA3.out HNN.out (Nat.le_trans HBB.out HB3.out.size) HZ.out (vt := freshT R) (vp := ⟨fa, fn, fc⟩) (vl := []) e1 (fun h => absurd h h0) (Nat.zero_le _); unfold freeF at hpf; rw [if_neg h0] at hpf; clear hO hU)
     | ((with_reducible refine loadVl (x := ?vx5) (b := w2.heap.size) (o := 0) (freshT R) ⟨fa, fn, fc⟩ ?vg5 ?vo5 ?vxx5 ?vc5 ?_); (case vg5 => rfl); (case vo5 => rfl); (case vxx5 => rfl); (case vc5 => exact HO3.out.range))
     | (go_at_call 88; refine hpf.mono ?_; intro e w6 h2; have H2 := hid h2; obtain ⟨v, ls, rfl, h3⟩ := h2; have H3 := hid h3; clear h3 hpf)
     | fail)
    go_ret
    exact H2.out.from (Tch.ofBelow HB3.out) rfl (fun k hk => .inl hk)
set_option maxHeartbeats 4000000 in
set_option maxRecDepth 100000 in
theorem cSlowly {w : World} {B q b n p : Nat} {nd N : Int} {f : Int → Option Nat} {x : Ax} (hL : Lq w B q b n nd N f) (hA : Ap w B p x) (hN : 3 ≤ N ∧ N ≤ 9) (hB : B ≤ w.heap.size) (hz : Sz 38 x) : Calls Tryz.prog 27 #[ptr q, ptr p] w (ActP w B q b n nd N f p x (slowF nd N x.att)) := by
 have c7 := hA.cells.1
 have f7 := hA.ob.free 7
 obtain ⟨W1, hW1⟩ : ∃ z, z = w.setCell ⟨p, 7, none⟩ (.int .i64 1) := ⟨_, rfl⟩
 have HT1 : Hid (Tch (fun k => k = p) w W1) := hid (by rw [hW1]; exact setV_tch w p 7 _)
 have HP1 : Hid (OA W1 p { x with bal := 1 }) := hid (by rw [hW1]; exact hA.ob.set rfl)
 have hnc : ∀ k, k = p → B ≤ k ∧ ∀ cur fz, w.heap[k]? ≠ some (.cells cur 42 fz) := fun k e => by subst e; exact ⟨hA.lb, hA.ob.no⟩
 have HL := hid (hL.tch HT1.out (fun e => (hL.qa hA).1 (.inl e)) (fun e => (hL.qa hA).2 (.inl e)))
 have HA : Hid (Ap W1 B p { x with bal := 1 }) := hid ⟨HP1.out, own_tch hA.ow HT1.out (fun k hk e => hA.pr (e ▸ hk)), hA.vs.tch HT1.out hnc, fun m hm => (hA.rs m hm).tch HT1.out hnc, hA.lb⟩
 have HZ : Hid (Sz 38 { x with bal := 1 }) := hid ⟨hz.len, hz.vl, hz.sh, hz.wf⟩
 have HNN := hid hN
 have HBB := hid (Nat.le_trans hB HT1.out.size)
 have HATT : Hid (({ x with bal := 1 } : Ax).att = { x.att with bal := 1 }) := hid rfl
 have HW1 := hid hW1
 clear hW1 hnc hL hA hz hN hB
 unfold slowF
 rw [okL_an, List.length_map, ← HATT.out]
 obtain ⟨cl, hcl⟩ : ∃ z, z = clI N := ⟨_, rfl⟩
 have hC := fun W => sClassic_any N W
 rw [← hcl] at hC ⊢
 clear hcl
 obtain ⟨R, hR⟩ : ∃ z, z = saidM [1] x.rs := ⟨_, rfl⟩
 have HRE := hid hR
 rw [← hR]
 have HRL := hid (show R.length ≤ 38 by rw [hR]; exact Nat.le_trans (saidM_len _ _) HZ.out.len)
 clear hR
 by_cases hge : cl ≤ (R.length : Int)
 · as_aux_lemma =>
    rw [if_pos hge]
    go_enter Tryz.func27, Tryz.ntmps27
    go_upto_region 2 with fail
    rw [← HW1.out]
    clear c7 f7
    refine rh_start (S := fun W => Below W1.heap.size W1 W) (n := 10) (listed := #[false, false, false, false, false, false, false, false, false, false]) (by kernel_rfl) rfl rfl ?_
    have HS0 : Hid (Below W1.heap.size W1 W1.drew) := hid (belowDrew (Below.refl _ W1))
    generalize W1.drew = wd at HS0 ⊢
    refine tkS 0 ?o6 ?v6 ?l6 ?a6 ?hi6 ?hq6 ?hl6 ?hw6 ?hv6 ?ha6 HS0.out ?hh6
    case hi6 => (simp only [List.getElem?_toArray, List.getElem?_cons_zero]; try rfl)
    case hq6 => exact fun _ _ _ h => h
    case hl6 => (simp only [List.setIfInBounds_toArray, List.set_cons_zero]; try rfl)
    case hw6 => rfl
    case hv6 =>
     intro W hW
     go_simp
     try with_reducible rfl
    case ha6 => (simp only [Act.put,gD,gE,gF]; try rfl)
    refine tkS 4 ?o7 ?v7 ?l7 ?a7 ?hi7 ?hq7 ?hl7 ?hw7 ?hv7 ?ha7 HS0.out ?hh7
    case hi7 => (simp only [gA,gB,gC]; try rfl)
    case hq7 => exact fun _ _ _ h => h
    case hl7 => (simp only [gD,gE,gF]; try rfl)
    case hw7 => rfl
    case hv7 =>
     intro W hW
     go_simp
     try with_reducible rfl
    case ha7 => (simp only [Act.put,gD,gE,gF]; try rfl)
    refine tkS 5 ?o8 ?v8 ?l8 ?a8 ?hi8 ?hq8 ?hl8 ?hw8 ?hv8 ?ha8 HS0.out ?hh8
    case hi8 => (simp only [gA,gB,gC]; try rfl)
    case hq8 => exact fun _ _ _ h => h
    case hl8 => (simp only [gD,gE,gF]; try rfl)
    case hw8 => rfl
    case hv8 =>
     intro W hW
     go_simp
     try with_reducible rfl
    case ha8 => (simp only [Act.put,gD,gE,gF]; try rfl)
    refine tkS 6 ?o9 ?v9 ?l9 ?a9 ?hi9 ?hq9 ?hl9 ?hw9 ?hv9 ?ha9 HS0.out ?hh9
    case hi9 => (simp only [gA,gB,gC]; try rfl)
    case hq9 => exact fun _ _ _ h => h
    case hl9 => (simp only [gD,gE,gF]; try rfl)
    case hw9 => rfl
    case hv9 =>
     intro W hW
     go_simp
     try with_reducible rfl
    case ha9 => (simp only [Act.put,gD,gE,gF]; try rfl)
    refine tkS 7 ?o10 ?v10 ?l10 ?a10 ?hi10 ?hq10 ?hl10 ?hw10 ?hv10 ?ha10 HS0.out ?hh10
    case hi10 => (simp only [gA,gB,gC]; try rfl)
    case hq10 => exact fun _ _ _ h => h
    case hl10 => (simp only [gD,gE,gF]; try rfl)
    case hw10 => rfl
    case hv10 =>
     intro W hW
     obtain ⟨k0, k1, k2⟩ := (HL.out.on hW).cells
     go_simp
     try with_reducible rfl
    case ha10 => (simp only [Act.put,gD,gE,gF]; try rfl)
    refine wpAnyH_ready (rs := [1]) (by kernel_rfl) (by simp) ?_
    refine rh_cons (i := 1) (o := ?o11) (listed' := ?l11) ?hi11 ?hl11 ?hg11 ?hh11 ?hs11
    case hi11 => (simp only [gA,gB,gC]; try rfl)
    case hl11 => (simp only [gD,gE,gF]; try rfl)
    case hg11 => rfl
    case hs11 => exact AllReadyH.nil
    intro K hK
    go_simp
    obtain ⟨W2, hW2⟩ : ∃ z, z = wd.alloc (.cells #[.int .i64 1] 46) := ⟨_, rfl⟩
    rw [← hW2]
    have HB2 : Hid (Below wd.heap.size wd W2) := hid (by rw [hW2]; exact laid1_b wd _)
    have HR2 : Hid (SoR W2 wd.heap.size [1]) := hid (by rw [hW2]; exact sor1 wd 1)
    have HX2 : Hid (wd.heap.size < W2.heap.size) := hid (by rw [hW2]; simp)
    clear hW2
    have HS2 := hid (HS0.out.trans (HB2.out.mono HS0.out.size))
    refine hK.out _ _ HS2.out ?_
    clear hK K
    have hsd := cSaid (cap := 1) (HA.out.on HS2.out) (by have := HZ.out.len; omega) HR2.out HX2.out (by decide)
    rw [show ({ x with bal := 1 } : Ax).rs = x.rs from rfl, ← HRE.out] at hsd
    refine wpAnyH_ready (rs := [2]) (by kernel_rfl) (by simp) ?_
    refine rh_cons (i := 2) (o := ?o12) (listed' := ?l12) ?hi12 ?hl12 ?hg12 ?hh12 ?hs12
    case hi12 => (simp only [gA,gB,gC]; try rfl)
    case hl12 => (simp only [gD,gE,gF]; try rfl)
    case hg12 => rfl
    case hs12 => exact AllReadyH.nil
    intro K hK
    go_simp
    refine hsd.mono ?_
    rintro z w3 ⟨v0, rfl, ho, hb⟩
    obtain ⟨ra, rc, rn, rfl, hrn⟩ := OwnG.asSlice ho
    have hca : rn = R.length := (by rw [hrn]; unfold mgs; rw [List.length_map])
    clear hrn
    have HC3 := hid hca
    have HS3 := hid (HS2.out.trans (hb.mono HS2.out.size))
    clear ho hb hca hsd
    refine hK.out _ _ HS3.out ?_
    clear hK K
    refine tkS 3 ?o13 ?v13 ?l13 ?a13 ?hi13 ?hq13 ?hl13 ?hw13 ?hv13 ?ha13 HS3.out ?hh13
    case hi13 => (simp only [gA,gB,gC]; try rfl)
    case hq13 => exact fun _ _ _ h => h
    case hl13 => (simp only [gD,gE,gF]; try rfl)
    case hw13 => rfl
    case hv13 =>
     intro W hW
     go_simp
     try with_reducible rfl
    case ha13 => (simp only [Act.put,gD,gE,gF]; try rfl)
    refine wpAnyH_ready (rs := [8]) (by kernel_rfl) (by simp) ?_
    refine rh_cons (i := 8) (o := ?o14) (listed' := ?l14) ?hi14 ?hl14 ?hg14 ?hh14 ?hs14
    case hi14 => (simp only [gA,gB,gC]; try rfl)
    case hl14 => (simp only [gD,gE,gF]; try rfl)
    case hg14 => rfl
    case hs14 => exact AllReadyH.nil
    intro K hK
    go_simp
    refine (hC _).mono ?_
    rintro z w4 ⟨rfl, rfl⟩
    refine hK.out _ _ HS3.out ?_
    clear hK K
    refine tkS 9 ?o15 ?v15 ?l15 ?a15 ?hi15 ?hq15 ?hl15 ?hw15 ?hv15 ?ha15 HS3.out ?hh15
    case hi15 => (simp only [gA,gB,gC]; try rfl)
    case hq15 => exact fun _ _ _ h => h
    case hl15 => (simp only [gD,gE,gF]; try rfl)
    case hw15 => rfl
    case hv15 =>
     intro W hW
     go_simp
     try with_reducible rfl
    case ha15 => (simp only [Act.put,gD,gE,gF]; try rfl)
    refine wpAnyH_done (by kernel_rfl) ?_ _
    have hge2 := hge
    rw [← HC3.out] at hge2
    have HL3 := hid (HL.out.on HS3.out)
    have HA3 := hid (HA.out.on HS3.out)
    have HB3 := hid (Nat.le_trans HBB.out HS3.out.size)
    have hgb : decide (cl ≤ (rn : Int)) = true := decide_eq_true hge2
    clear hge
    have hca := cCloseAll HL3.out HA3.out HNN.out HB3.out HZ.out
    go_wp2_with (first
     | (go_at_call 57; refine hca.mono ?_; intro e w6 h2; have H2 := hid h2; obtain ⟨v, ls, rfl, h3⟩ := h2; have H3 := hid h3; clear h3 hca)
     | fail)
    go_ret
    exact ActP.from (x := x) H2.out ((HT1.out.mono fun k e => .inr (.inl e)).trans (Tch.ofBelow HS3.out)) rfl (fun k hk => .inl hk)
 · as_aux_lemma =>
    rw [if_neg hge]
    go_enter Tryz.func27, Tryz.ntmps27
    go_upto_region 2 with fail
    rw [← HW1.out]
    clear c7 f7
    refine rh_start (S := fun W => Below W1.heap.size W1 W) (n := 10) (listed := #[false, false, false, false, false, false, false, false, false, false]) (by kernel_rfl) rfl rfl ?_
    have HS0 : Hid (Below W1.heap.size W1 W1.drew) := hid (belowDrew (Below.refl _ W1))
    generalize W1.drew = wd at HS0 ⊢
    refine tkS 0 ?o16 ?v16 ?l16 ?a16 ?hi16 ?hq16 ?hl16 ?hw16 ?hv16 ?ha16 HS0.out ?hh16
    case hi16 => (simp only [List.getElem?_toArray, List.getElem?_cons_zero]; try rfl)
    case hq16 => exact fun _ _ _ h => h
    case hl16 => (simp only [List.setIfInBounds_toArray, List.set_cons_zero]; try rfl)
    case hw16 => rfl
    case hv16 =>
     intro W hW
     go_simp
     try with_reducible rfl
    case ha16 => (simp only [Act.put,gD,gE,gF]; try rfl)
    refine tkS 4 ?o17 ?v17 ?l17 ?a17 ?hi17 ?hq17 ?hl17 ?hw17 ?hv17 ?ha17 HS0.out ?hh17
    case hi17 => (simp only [gA,gB,gC]; try rfl)
    case hq17 => exact fun _ _ _ h => h
    case hl17 => (simp only [gD,gE,gF]; try rfl)
    case hw17 => rfl
    case hv17 =>
     intro W hW
     go_simp
     try with_reducible rfl
    case ha17 => (simp only [Act.put,gD,gE,gF]; try rfl)
    refine tkS 5 ?o18 ?v18 ?l18 ?a18 ?hi18 ?hq18 ?hl18 ?hw18 ?hv18 ?ha18 HS0.out ?hh18
    case hi18 => (simp only [gA,gB,gC]; try rfl)
    case hq18 => exact fun _ _ _ h => h
    case hl18 => (simp only [gD,gE,gF]; try rfl)
    case hw18 => rfl
    case hv18 =>
     intro W hW
     go_simp
     try with_reducible rfl
    case ha18 => (simp only [Act.put,gD,gE,gF]; try rfl)
    refine tkS 6 ?o19 ?v19 ?l19 ?a19 ?hi19 ?hq19 ?hl19 ?hw19 ?hv19 ?ha19 HS0.out ?hh19
    case hi19 => (simp only [gA,gB,gC]; try rfl)
    case hq19 => exact fun _ _ _ h => h
    case hl19 => (simp only [gD,gE,gF]; try rfl)
    case hw19 => rfl
    case hv19 =>
     intro W hW
     go_simp
     try with_reducible rfl
    case ha19 => (simp only [Act.put,gD,gE,gF]; try rfl)
    refine tkS 7 ?o20 ?v20 ?l20 ?a20 ?hi20 ?hq20 ?hl20 ?hw20 ?hv20 ?ha20 HS0.out ?hh20
    case hi20 => (simp only [gA,gB,gC]; try rfl)
    case hq20 => exact fun _ _ _ h => h
    case hl20 => (simp only [gD,gE,gF]; try rfl)
    case hw20 => rfl
    case hv20 =>
     intro W hW
     obtain ⟨k0, k1, k2⟩ := (HL.out.on hW).cells
     go_simp
     try with_reducible rfl
    case ha20 => (simp only [Act.put,gD,gE,gF]; try rfl)
    refine wpAnyH_ready (rs := [1]) (by kernel_rfl) (by simp) ?_
    refine rh_cons (i := 1) (o := ?o21) (listed' := ?l21) ?hi21 ?hl21 ?hg21 ?hh21 ?hs21
    case hi21 => (simp only [gA,gB,gC]; try rfl)
    case hl21 => (simp only [gD,gE,gF]; try rfl)
    case hg21 => rfl
    case hs21 => exact AllReadyH.nil
    intro K hK
    go_simp
    obtain ⟨W2, hW2⟩ : ∃ z, z = wd.alloc (.cells #[.int .i64 1] 46) := ⟨_, rfl⟩
    rw [← hW2]
    have HB2 : Hid (Below wd.heap.size wd W2) := hid (by rw [hW2]; exact laid1_b wd _)
    have HR2 : Hid (SoR W2 wd.heap.size [1]) := hid (by rw [hW2]; exact sor1 wd 1)
    have HX2 : Hid (wd.heap.size < W2.heap.size) := hid (by rw [hW2]; simp)
    clear hW2
    have HS2 := hid (HS0.out.trans (HB2.out.mono HS0.out.size))
    refine hK.out _ _ HS2.out ?_
    clear hK K
    have hsd := cSaid (cap := 1) (HA.out.on HS2.out) (by have := HZ.out.len; omega) HR2.out HX2.out (by decide)
    rw [show ({ x with bal := 1 } : Ax).rs = x.rs from rfl, ← HRE.out] at hsd
    refine wpAnyH_ready (rs := [2]) (by kernel_rfl) (by simp) ?_
    refine rh_cons (i := 2) (o := ?o22) (listed' := ?l22) ?hi22 ?hl22 ?hg22 ?hh22 ?hs22
    case hi22 => (simp only [gA,gB,gC]; try rfl)
    case hl22 => (simp only [gD,gE,gF]; try rfl)
    case hg22 => rfl
    case hs22 => exact AllReadyH.nil
    intro K hK
    go_simp
    refine hsd.mono ?_
    rintro z w3 ⟨v0, rfl, ho, hb⟩
    obtain ⟨ra, rc, rn, rfl, hrn⟩ := OwnG.asSlice ho
    have hca : rn = R.length := (by rw [hrn]; unfold mgs; rw [List.length_map])
    clear hrn
    have HC3 := hid hca
    have HS3 := hid (HS2.out.trans (hb.mono HS2.out.size))
    clear ho hb hca hsd
    refine hK.out _ _ HS3.out ?_
    clear hK K
    refine tkS 3 ?o23 ?v23 ?l23 ?a23 ?hi23 ?hq23 ?hl23 ?hw23 ?hv23 ?ha23 HS3.out ?hh23
    case hi23 => (simp only [gA,gB,gC]; try rfl)
    case hq23 => exact fun _ _ _ h => h
    case hl23 => (simp only [gD,gE,gF]; try rfl)
    case hw23 => rfl
    case hv23 =>
     intro W hW
     go_simp
     try with_reducible rfl
    case ha23 => (simp only [Act.put,gD,gE,gF]; try rfl)
    refine wpAnyH_ready (rs := [8]) (by kernel_rfl) (by simp) ?_
    refine rh_cons (i := 8) (o := ?o24) (listed' := ?l24) ?hi24 ?hl24 ?hg24 ?hh24 ?hs24
    case hi24 => (simp only [gA,gB,gC]; try rfl)
    case hl24 => (simp only [gD,gE,gF]; try rfl)
    case hg24 => rfl
    case hs24 => exact AllReadyH.nil
    intro K hK
    go_simp
    refine (hC _).mono ?_
    rintro z w4 ⟨rfl, rfl⟩
    refine hK.out _ _ HS3.out ?_
    clear hK K
    refine tkS 9 ?o25 ?v25 ?l25 ?a25 ?hi25 ?hq25 ?hl25 ?hw25 ?hv25 ?ha25 HS3.out ?hh25
    case hi25 => (simp only [gA,gB,gC]; try rfl)
    case hq25 => exact fun _ _ _ h => h
    case hl25 => (simp only [gD,gE,gF]; try rfl)
    case hw25 => rfl
    case hv25 =>
     intro W hW
     go_simp
     try with_reducible rfl
    case ha25 => (simp only [Act.put,gD,gE,gF]; try rfl)
    refine wpAnyH_done (by kernel_rfl) ?_ _
    have hge2 := hge
    rw [← HC3.out] at hge2
    have HL3 := hid (HL.out.on HS3.out)
    have HA3 := hid (HA.out.on HS3.out)
    have HB3 := hid (Nat.le_trans HBB.out HS3.out.size)
    have hgb : decide (cl ≤ (rn : Int)) = false := decide_eq_false hge2
    clear hge
    have hca := cRaise HL3.out HA3.out HNN.out HB3.out HZ.out
    go_wp2_with (first
     | (go_at_call 58; refine hca.mono ?_; intro e w6 h2; have H2 := hid h2; obtain ⟨v, ls, rfl, h3⟩ := h2; have H3 := hid h3; clear h3 hca)
     | fail)
    go_ret
    exact ActP.from (x := x) H2.out ((HT1.out.mono fun k e => .inr (.inl e)).trans (Tch.ofBelow HS3.out)) rfl (fun k hk => .inl hk)
end Go.Proofs.YtplodoindppleaaGreat
