import Derived.Test.YtplodoindppleaaGreatLVoteZm
import Derived.Test.YtplodoindppleaaGreatHChooseZm
namespace Go.Proofs.YtplodoindppleaaGreat
set_option linter.unusedVariables false
open Go.RowKit
open Go.Lib (hid)
theorem short_an {m m' : Ms} {n : Nat} (h : m'.an = m.an) (hs : m.short n) : m'.short n := by
 have h1 : m'.v = m.v := congrArg An.vl h
 have h2 : m'.a = m.a := congrArg An.xl h
 have h3 : m'.f = m.f := congrArg An.fpl h
 exact ⟨by rw [h1]; exact hs.1, by rw [h2]; exact hs.2.1, by rw [h3]; exact hs.2.2⟩
theorem Sz.mono {j k : Nat} {x : Ax} (h : Sz j x) (hk : j ≤ k) : Sz k x := ⟨Nat.le_trans h.len hk, h.vl, h.sh, h.wf⟩
theorem Sz.add {k : Nat} {x x' : Ax} {m : Ms} (h : Sz k x) (hc : x'.c = x.c) (hr : ∃ m', x'.rs = x.rs ++ [m'] ∧ m'.an = m.an) (hv : x'.vl = x.vl) (hs : m.short 1024) : Sz (k + 1) x' := by
 obtain ⟨m', hr, hm⟩ := hr
 refine ⟨?_, by rw [hv]; exact h.vl, fun y hy => ?_, by rw [hc]; exact h.wf⟩
 · rw [hr, List.length_append]; exact Nat.succ_le_succ h.len
 · rw [hr] at hy
   rcases List.mem_append.1 hy with hy | hy
   · exact h.sh y hy
   · rw [List.mem_singleton] at hy; subst hy; exact short_an hm hs
theorem choA_an (N : Int) (ls : List Ms) : choA N (ls.map Ms.an) = choF N ls := by unfold choA; rw [nm_map, choF_nm]
theorem proL_an (x : Ax) : proL x.att = (saidM [4] x.rs).map Ms.an := (saidM_an [4] x.rs).symm
theorem accL_an (x : Ax) : accL x.att = (saidM [6] x.rs).map Ms.an := (saidM_an [6] x.rs).symm
theorem choF_len {N : Int} {ls : List Ms} (h : ∀ m ∈ ls, m.short 1024) : (choF N ls).l.length ≤ 1024 := by
 unfold choF
 split
 · rcases hs : ls.find? isS with _ | m
   · rcases ha : accF ls with _ | m
     · rcases hd : decF N ls with _ | m
       · simp only
         split
         · exact freshL_len ls
         · exact Nat.zero_le _
       · exact (h m (decF_mem hd)).2.2
     · exact (h m (acc_mem ha)).2.1
   · exact (h m (List.mem_of_find?_eq_some hs)).1
 · exact Nat.zero_le _
theorem choF_k {N : Int} {ls : List Ms} : (choF N ls).k = 0 ∨ (choF N ls).k = 1 ∨ (choF N ls).k = 2 ∨ (choF N ls).k = 3 := by
 unfold choF
 split
 · rcases hs : ls.find? isS with _ | m
   · rcases ha : accF ls with _ | m
     · rcases hd : decF N ls with _ | m
       · simp only
         split
         · exact .inr (.inr (.inr rfl))
         · exact .inl rfl
       · exact .inr (.inr (.inl rfl))
     · exact .inr (.inl rfl)
   · exact .inl rfl
 · exact .inl rfl
set_option maxHeartbeats 8000000 in
set_option maxRecDepth 100000 in
theorem cVote {w : World} {B q b n p : Nat} {nd N : Int} {f : Int → Option Nat} {x : Ax} (hL : Lq w B q b n nd N f) (hA : Ap w B p x) (hN : 3 ≤ N ∧ N ≤ 9) (hB : B ≤ w.heap.size) (hz : Sz 37 x) {m : Ms} (hm : m.at w) (hms : m.short 1024) : Calls Tryz.prog 31 #[ptr q, ptr p, .agg m.m.arr] w (ActP w B q b n nd N f p x (voteF nd N x.att m.an)) := by
 have HL0 := hid hL
 have HA0 := hid hA
 have HB0 : Hid (Below w.heap.size w (w.alloc (.cells m.m.arr 48))) := hid (laid1_b w _)
 have HX0 : Hid (OM (w.alloc (.cells m.m.arr 48)) w.heap.size m.m) := hid (laid1_0 w _)
 have HL := hid (hL.on HB0.out)
 have HA := hid (hA.on HB0.out)
 have HM := hid (hm.on HB0.out)
 have HMS := hid hms
 have HZ := hid hz
 have HNN := hid hN
 have HBB := hid (Nat.le_trans hB HB0.out.size)
 clear hL hA hz hm hms hB
 unfold voteF
 obtain ⟨mt, hmt⟩ : ∃ z, z = m.m.vt := ⟨_, rfl⟩
 have HMT := hid hmt
 obtain ⟨xt, hxt⟩ : ∃ z, z = x.vt := ⟨_, rfl⟩
 have HXT := hid hxt
 obtain ⟨ph, hph⟩ : ∃ z, z = x.ph := ⟨_, rfl⟩
 have HPH := hid hph
 rw [show m.an.vt = mt from hmt.symm, show x.att.vt = xt from hxt.symm, show x.att.ph = ph from hph.symm]
 clear hmt hxt hph
 by_cases h1 : mt ≠ xt
 · as_aux_lemma =>
    rw [if_pos (.inl h1)]
    go_enter Tryz.func31, Tryz.ntmps31
    go_upto_region 1 with fail
    generalize (w.alloc (.cells m.m.arr 48)) = W0 at HB0 HX0 HL HA HM HBB ⊢
    have d11 : W0.cell? ⟨w.heap.size, 11, none⟩ = some (.int .i64 mt) := (by rw [HMT.out]; exact HX0.out.cell (m := m.m) (j := 11) rfl)
    have e9 : W0.cell? ⟨p, 9, none⟩ = some (.int .i64 xt) := (by rw [HXT.out]; exact HA.out.cells.2.2.1)
    have e8 : W0.cell? ⟨p, 8, none⟩ = some (.int .i64 ph) := (by rw [HPH.out]; exact HA.out.cells.2.1)
    have hb1 : (mt != xt) = true := by simpa using h1
    have hb2 : (mt == xt) = false := by simpa using h1
    go_quiet (fail)
    rename_i nq
    have HBq : Hid (Below W0.heap.size W0 (W0.drewN nq)) := hid (Below.drewL (Below.refl _ W0) nq)
    have HXq : Hid (OM (W0.drewN nq) w.heap.size m.m) := hid HX0.out
    have HLq := hid (HL.out.on HBq.out)
    have HAq := hid (HA.out.on HBq.out)
    have HMq := hid (HM.out.on HBq.out)
    have HBBq := hid (Nat.le_trans HBB.out HBq.out.size)
    have HB0q : Hid (Below w.heap.size w (W0.drewN nq)) := hid (HB0.out.trans (HBq.out.mono HB0.out.size))
    generalize W0.drewN nq = W0q at HBq HXq HLq HAq HMq HBBq HB0q ⊢
    clear HX0 HL HA HM HBB HB0 HBq
    have HX0 := HXq
    have HL := HLq
    have HA := HAq
    have HM := HMq
    have HBB := HBBq
    have HB0 := HB0q
    clear HXq HLq HAq HMq HBBq HB0q
    go_wp2_with fail
    go_ret
    exact ActP.still HL0.out HA0.out HB0.out
 · have h1e : mt = xt := Classical.not_not.1 h1
   by_cases h2 : ph ≠ 1
   · by_cases h3 : ph ≠ 3
     · as_aux_lemma =>
        rw [if_pos (.inr ⟨h2, h3⟩)]
        go_enter Tryz.func31, Tryz.ntmps31
        go_upto_region 1 with fail
        generalize (w.alloc (.cells m.m.arr 48)) = W0 at HB0 HX0 HL HA HM HBB ⊢
        have d11 : W0.cell? ⟨w.heap.size, 11, none⟩ = some (.int .i64 mt) := (by rw [HMT.out]; exact HX0.out.cell (m := m.m) (j := 11) rfl)
        have e9 : W0.cell? ⟨p, 9, none⟩ = some (.int .i64 xt) := (by rw [HXT.out]; exact HA.out.cells.2.2.1)
        have e8 : W0.cell? ⟨p, 8, none⟩ = some (.int .i64 ph) := (by rw [HPH.out]; exact HA.out.cells.2.1)
        have hb1 : (mt != xt) = false := by simp [h1e]
        have hb2 : (ph != 1) = true := by simpa using h2
        have hb3 : (ph != 3) = true := by simpa using h3
        go_quiet (fail)
        rename_i nq
        have HBq : Hid (Below W0.heap.size W0 (W0.drewN nq)) := hid (Below.drewL (Below.refl _ W0) nq)
        have HXq : Hid (OM (W0.drewN nq) w.heap.size m.m) := hid HX0.out
        have HLq := hid (HL.out.on HBq.out)
        have HAq := hid (HA.out.on HBq.out)
        have HMq := hid (HM.out.on HBq.out)
        have HBBq := hid (Nat.le_trans HBB.out HBq.out.size)
        have HB0q : Hid (Below w.heap.size w (W0.drewN nq)) := hid (HB0.out.trans (HBq.out.mono HB0.out.size))
        generalize W0.drewN nq = W0q at HBq HXq HLq HAq HMq HBBq HB0q ⊢
        clear HX0 HL HA HM HBB HB0 HBq
        have HX0 := HXq
        have HL := HLq
        have HA := HAq
        have HM := HMq
        have HBB := HBBq
        have HB0 := HB0q
        clear HXq HLq HAq HMq HBBq HB0q
        go_wp2_with fail
        go_ret
        exact ActP.still HL0.out HA0.out HB0.out
     · as_aux_lemma =>
        have h3e : ph = 3 := Classical.not_not.1 h3
        subst h3e
        clear h3
        rw [if_neg (fun h => by rcases h with h | h; exact h1 h; exact h.2 rfl), if_neg (by decide)]
        go_enter Tryz.func31, Tryz.ntmps31
        go_upto_region 1 with fail
        generalize (w.alloc (.cells m.m.arr 48)) = W0 at HB0 HX0 HL HA HM HBB ⊢
        have d11 : W0.cell? ⟨w.heap.size, 11, none⟩ = some (.int .i64 mt) := (by rw [HMT.out]; exact HX0.out.cell (m := m.m) (j := 11) rfl)
        have e9 : W0.cell? ⟨p, 9, none⟩ = some (.int .i64 xt) := (by rw [HXT.out]; exact HA.out.cells.2.2.1)
        have e8 : W0.cell? ⟨p, 8, none⟩ = some (.int .i64 3) := (by rw [HPH.out]; exact HA.out.cells.2.1)
        have hb1 : (mt != xt) = false := by simp [h1e]
        go_quiet (fail)
        rename_i nq
        have HBq : Hid (Below W0.heap.size W0 (W0.drewN nq)) := hid (Below.drewL (Below.refl _ W0) nq)
        have HXq : Hid (OM (W0.drewN nq) w.heap.size m.m) := hid HX0.out
        have HLq := hid (HL.out.on HBq.out)
        have HAq := hid (HA.out.on HBq.out)
        have HMq := hid (HM.out.on HBq.out)
        have HBBq := hid (Nat.le_trans HBB.out HBq.out.size)
        have HB0q : Hid (Below w.heap.size w (W0.drewN nq)) := hid (HB0.out.trans (HBq.out.mono HB0.out.size))
        generalize W0.drewN nq = W0q at HBq HXq HLq HAq HMq HBBq HB0q ⊢
        clear HX0 HL HA HM HBB HB0 HBq
        have HX0 := HXq
        have HL := HLq
        have HA := HAq
        have HM := HMq
        have HBB := HBBq
        have HB0 := HB0q
        clear HXq HLq HAq HMq HBBq HB0q
        go_wp2_with (first
         | ((with_reducible refine loadM (x := ?lx2) (b := w.heap.size) (m.m) ?lg2 ?lo2 ?lxx2 ?lc2 ?lh2); (case lg2 => rfl); (case lo2 => rfl); (case lxx2 => rfl); (case lc2 => exact HX0.out))
         | (go_at_call 67; refine (cKeepA HA.out HBB.out (by have := HZ.out.len; omega) HM.out HMS.out).mono ?_; rintro e w1 ⟨rfl, x', hatt, hc, hap, htc, hfr, hrs, hvl⟩; have HAT := hid hatt; have HC := hid hc; have HA1 := hid hap; have HT1 := hid htc; have HFR := hid hfr; have HZ1 := hid (HZ.out.add hc hrs hvl HMS.out); have HVL := hid hvl; have HL1 := hid (HL.out.tch htc (HL.out.qa HA.out).1 (HL.out.qa HA.out).2); have HB1 : Hid (B ≤ w1.heap.size) := hid (Nat.le_trans HBB.out htc.size); have c8 : w1.cell? ⟨p, 8, none⟩ = some (.int .i64 3) := (by have := hap.cells.2.1; rw [show x'.ph = 3 from (congrArg Att.ph hatt).trans HPH.out.symm] at this; exact this); have hca := cProposed HL1.out HA1.out HNN.out HB1.out HZ1.out; rw [HAT.out] at hca; clear hatt hc hap htc hfr hrs hvl)
         | (go_at_call 69; refine hca.mono ?_; intro e w6 h2; have H2 := hid h2; obtain ⟨v, ls, rfl, h3⟩ := h2; have H3 := hid h3; clear h3 hca)
         | fail)
        go_ret
        exact ActP.from (x := x) H2.out ((Tch.ofBelow HB0.out).trans (HT1.out.mono fun k e => .inr e)) HC.out (fun k hk => (HFR.out k hk).imp id (fun h => Nat.le_trans HB0.out.size h))
   · as_aux_lemma =>
      have h2e : ph = 1 := Classical.not_not.1 h2
      subst h2e
      clear h2
      rw [if_neg (fun h => by rcases h with h | h; exact h1 h; exact h.1 rfl), if_pos rfl]
      go_enter Tryz.func31, Tryz.ntmps31
      go_upto_region 1 with fail
      generalize (w.alloc (.cells m.m.arr 48)) = W0 at HB0 HX0 HL HA HM HBB ⊢
      have d11 : W0.cell? ⟨w.heap.size, 11, none⟩ = some (.int .i64 mt) := (by rw [HMT.out]; exact HX0.out.cell (m := m.m) (j := 11) rfl)
      have e9 : W0.cell? ⟨p, 9, none⟩ = some (.int .i64 xt) := (by rw [HXT.out]; exact HA.out.cells.2.2.1)
      have e8 : W0.cell? ⟨p, 8, none⟩ = some (.int .i64 1) := (by rw [HPH.out]; exact HA.out.cells.2.1)
      have hb1 : (mt != xt) = false := by simp [h1e]
      go_quiet (fail)
      rename_i nq
      have HBq : Hid (Below W0.heap.size W0 (W0.drewN nq)) := hid (Below.drewL (Below.refl _ W0) nq)
      have HXq : Hid (OM (W0.drewN nq) w.heap.size m.m) := hid HX0.out
      have HLq := hid (HL.out.on HBq.out)
      have HAq := hid (HA.out.on HBq.out)
      have HMq := hid (HM.out.on HBq.out)
      have HBBq := hid (Nat.le_trans HBB.out HBq.out.size)
      have HB0q : Hid (Below w.heap.size w (W0.drewN nq)) := hid (HB0.out.trans (HBq.out.mono HB0.out.size))
      generalize W0.drewN nq = W0q at HBq HXq HLq HAq HMq HBBq HB0q ⊢
      clear HX0 HL HA HM HBB HB0 HBq
      have HX0 := HXq
      have HL := HLq
      have HA := HAq
      have HM := HMq
      have HBB := HBBq
      have HB0 := HB0q
      clear HXq HLq HAq HMq HBBq HB0q
      go_wp2_with (first
       | ((with_reducible refine loadM (x := ?lx1) (b := w.heap.size) (m.m) ?lg1 ?lo1 ?lxx1 ?lc1 ?lh1); (case lg1 => rfl); (case lo1 => rfl); (case lxx1 => rfl); (case lc1 => exact HX0.out))
       | (go_at_call 67; refine (cKeepA HA.out HBB.out (by have := HZ.out.len; omega) HM.out HMS.out).mono ?_; rintro e w1 ⟨rfl, x', hatt, hc, hap, htc, hfr, hrs, hvl⟩; have HAT := hid hatt; have HC := hid hc; have HA1 := hid hap; have HT1 := hid htc; have HFR := hid hfr; have HZ1 := hid (HZ.out.add hc hrs hvl HMS.out); have HVL := hid hvl; have HL1 := hid (HL.out.tch htc (HL.out.qa HA.out).1 (HL.out.qa HA.out).2); have HB1 : Hid (B ≤ w1.heap.size) := hid (Nat.le_trans HBB.out htc.size); have c8 : w1.cell? ⟨p, 8, none⟩ = some (.int .i64 1) := (by have := hap.cells.2.1; rw [show x'.ph = 1 from (congrArg Att.ph hatt).trans HPH.out.symm] at this; exact this); have hca := cAsked HL1.out HA1.out HNN.out HB1.out HZ1.out; rw [HAT.out] at hca; clear hatt hc hap htc hfr hrs hvl)
       | (go_at_call 68; refine hca.mono ?_; intro e w6 h2; have H2 := hid h2; obtain ⟨v, ls, rfl, h3⟩ := h2; have H3 := hid h3; clear h3 hca)
       | fail)
      go_ret
      exact ActP.from (x := x) H2.out ((Tch.ofBelow HB0.out).trans (HT1.out.mono fun k e => .inr e)) HC.out (fun k hk => (HFR.out k hk).imp id (fun h => Nat.le_trans HB0.out.size h))
set_option maxHeartbeats 8000000 in
set_option maxRecDepth 100000 in
theorem cAcc16 {w : World} {B q b n p : Nat} {nd N : Int} {f : Int → Option Nat} {x : Ax} (hL : Lq w B q b n nd N f) (hA : Ap w B p x) (hN : 3 ≤ N ∧ N ≤ 9) (hB : B ≤ w.heap.size) (hz : Sz 37 x) {m : Ms} (hm : m.at w) (hms : m.short 1024) : Calls Tryz.prog 33 #[ptr q, ptr p, .agg m.m.arr] w (ActP w B q b n nd N f p x (acceptedF nd N x.att m.an)) := by
 have HL0 := hid hL
 have HA0 := hid hA
 have HB0 : Hid (Below w.heap.size w (w.alloc (.cells m.m.arr 48))) := hid (laid1_b w _)
 have HX0 : Hid (OM (w.alloc (.cells m.m.arr 48)) w.heap.size m.m) := hid (laid1_0 w _)
 have HL := hid (hL.on HB0.out)
 have HA := hid (hA.on HB0.out)
 have HM := hid (hm.on HB0.out)
 have HMS := hid hms
 have HZ := hid hz
 have HNN := hid hN
 have HBB := hid (Nat.le_trans hB HB0.out.size)
 clear hL hA hz hm hms hB
 unfold acceptedF
 obtain ⟨ph, hph⟩ : ∃ z, z = x.ph := ⟨_, rfl⟩
 have HPH := hid hph
 rw [show x.att.ph = ph from hph.symm]
 clear hph
 obtain ⟨cl, hcl⟩ : ∃ z, z = clI N := ⟨_, rfl⟩
 have hC := fun W => sClassic_any N W
 rw [← hcl] at hC ⊢
 clear hcl
 obtain ⟨al, hal⟩ : ∃ z, z = (accL (x.att.add m.an)).length := ⟨_, rfl⟩
 have HAL := hid hal
 rw [← hal]
 clear hal
 have e8 : (w.alloc (.cells m.m.arr 48)).cell? ⟨p, 8, none⟩ = some (.int .i64 ph) := (by rw [HPH.out]; exact HA.out.cells.2.1)
 have hna : 0 = 0 := rfl
 by_cases h1 : ph ≠ 4
 · as_aux_lemma =>
    rw [if_pos h1]
    go_enter Tryz.func33, Tryz.ntmps33
    go_wp2_with fail
    go_ret
    exact ActP.still HL0.out HA0.out HB0.out
 · have h1e : ph = 4 := Classical.not_not.1 h1
   subst h1e
   clear h1
   by_cases h2 : (al : Int) < cl
   · as_aux_lemma =>
      rw [if_neg (fun h => h rfl), if_pos h2]
      go_enter Tryz.func33, Tryz.ntmps33
      go_upto_region 4 with (first
       | ((with_reducible refine loadM (x := ?lx3) (b := w.heap.size) (m.m) ?lg3 ?lo3 ?lxx3 ?lc3 ?lh3); (case lg3 => rfl); (case lo3 => rfl); (case lxx3 => rfl); (case lc3 => exact HX0.out))
       | (go_at_call 67; refine (cKeepA HA.out HBB.out (by have := HZ.out.len; omega) HM.out HMS.out).mono ?_; rintro e w1 ⟨rfl, x', hatt, hc, hap, htc, hfr, hrs, hvl⟩; have HAT := hid hatt; have HC := hid hc; have HA1 := hid hap; have HT1 := hid htc; have HFR := hid hfr; have HZ1 := hid (HZ.out.add hc hrs hvl HMS.out); have HVL := hid hvl; have HL1 := hid (HL.out.tch htc (HL.out.qa HA.out).1 (HL.out.qa HA.out).2); have HB1 : Hid (B ≤ w1.heap.size) := hid (Nat.le_trans HBB.out htc.size); clear hatt hc hap htc hfr hrs hvl)
       | fail)
      have HAL1 : Hid ((saidM [6] x'.rs).length = al) := hid (by rw [HAL.out, ← HAT.out, accL_an, List.length_map])
      have hal38 : al ≤ 38 := by have h1 := saidM_len [6] x'.rs; have h2 := HZ1.out.len; have h3 := HAL1.out; omega
      refine rh_start (S := fun W => Below w1.heap.size w1 W) (n := 10) (listed := #[false, false, false, false, false, false, false, false, false, false]) (by kernel_rfl) rfl rfl ?_
      have HS0 : Hid (Below w1.heap.size w1 w1.drew) := hid (belowDrew (Below.refl _ w1))
      generalize w1.drew = wd at HS0 ⊢
      refine tkS 0 ?o4 ?v4 ?l4 ?a4 ?hi4 ?hq4 ?hl4 ?hw4 ?hv4 ?ha4 HS0.out ?hh4
      case hi4 => (simp only [List.getElem?_toArray, List.getElem?_cons_zero]; try rfl)
      case hq4 => exact fun _ _ _ h => h
      case hl4 => (simp only [List.setIfInBounds_toArray, List.set_cons_zero]; try rfl)
      case hw4 => rfl
      case hv4 =>
       intro W hW
       go_simp
       try with_reducible rfl
      case ha4 => (simp only [Act.put,gD,gE,gF]; try rfl)
      refine tkS 4 ?o5 ?v5 ?l5 ?a5 ?hi5 ?hq5 ?hl5 ?hw5 ?hv5 ?ha5 HS0.out ?hh5
      case hi5 => (simp only [gA,gB,gC]; try rfl)
      case hq5 => exact fun _ _ _ h => h
      case hl5 => (simp only [gD,gE,gF]; try rfl)
      case hw5 => rfl
      case hv5 =>
       intro W hW
       go_simp
       try with_reducible rfl
      case ha5 => (simp only [Act.put,gD,gE,gF]; try rfl)
      refine tkS 5 ?o6 ?v6 ?l6 ?a6 ?hi6 ?hq6 ?hl6 ?hw6 ?hv6 ?ha6 HS0.out ?hh6
      case hi6 => (simp only [gA,gB,gC]; try rfl)
      case hq6 => exact fun _ _ _ h => h
      case hl6 => (simp only [gD,gE,gF]; try rfl)
      case hw6 => rfl
      case hv6 =>
       intro W hW
       go_simp
       try with_reducible rfl
      case ha6 => (simp only [Act.put,gD,gE,gF]; try rfl)
      refine tkS 6 ?o7 ?v7 ?l7 ?a7 ?hi7 ?hq7 ?hl7 ?hw7 ?hv7 ?ha7 HS0.out ?hh7
      case hi7 => (simp only [gA,gB,gC]; try rfl)
      case hq7 => exact fun _ _ _ h => h
      case hl7 => (simp only [gD,gE,gF]; try rfl)
      case hw7 => rfl
      case hv7 =>
       intro W hW
       go_simp
       try with_reducible rfl
      case ha7 => (simp only [Act.put,gD,gE,gF]; try rfl)
      refine tkS 7 ?o8 ?v8 ?l8 ?a8 ?hi8 ?hq8 ?hl8 ?hw8 ?hv8 ?ha8 HS0.out ?hh8
      case hi8 => (simp only [gA,gB,gC]; try rfl)
      case hq8 => exact fun _ _ _ h => h
      case hl8 => (simp only [gD,gE,gF]; try rfl)
      case hw8 => rfl
      case hv8 =>
       intro W hW
       obtain ⟨k0, k1, k2⟩ := (HL1.out.on hW).cells
       go_simp
       try with_reducible rfl
      case ha8 => (simp only [Act.put,gD,gE,gF]; try rfl)
      refine wpAnyH_ready (rs := [1]) (by kernel_rfl) (by simp) ?_
      refine rh_cons (i := 1) (o := ?o9) (listed' := ?l9) ?hi9 ?hl9 ?hg9 ?hh9 ?hs9
      case hi9 => (simp only [gA,gB,gC]; try rfl)
      case hl9 => (simp only [gD,gE,gF]; try rfl)
      case hg9 => rfl
      case hs9 => exact AllReadyH.nil
      intro K hK
      go_simp
      obtain ⟨W2, hW2⟩ : ∃ z, z = wd.alloc (.cells #[.int .i64 6] 46) := ⟨_, rfl⟩
      rw [← hW2]
      have HB2 : Hid (Below wd.heap.size wd W2) := hid (by rw [hW2]; exact laid1_b wd _)
      have HR2 : Hid (SoR W2 wd.heap.size [6]) := hid (by rw [hW2]; exact sor1 wd 6)
      have HX2 : Hid (wd.heap.size < W2.heap.size) := hid (by rw [hW2]; simp)
      clear hW2
      have HS2 := hid (HS0.out.trans (HB2.out.mono HS0.out.size))
      refine hK.out _ _ HS2.out ?_
      clear hK K
      have hsd := cSaid (cap := 1) (HA1.out.on HS2.out) (by have := HZ1.out.len; omega) HR2.out HX2.out (by decide)
      refine wpAnyH_ready (rs := [2]) (by kernel_rfl) (by simp) ?_
      refine rh_cons (i := 2) (o := ?o10) (listed' := ?l10) ?hi10 ?hl10 ?hg10 ?hh10 ?hs10
      case hi10 => (simp only [gA,gB,gC]; try rfl)
      case hl10 => (simp only [gD,gE,gF]; try rfl)
      case hg10 => rfl
      case hs10 => exact AllReadyH.nil
      intro K hK
      go_simp
      refine hsd.mono ?_
      rintro z w3 ⟨v0, rfl, ho, hb⟩
      obtain ⟨ra, rc, rn, rfl, hrn⟩ := OwnG.asSlice ho
      obtain rfl : rn = al := (by rw [hrn, ← HAL1.out]; unfold mgs; rw [List.length_map])
      clear hrn
      have HS3 := hid (HS2.out.trans (hb.mono HS2.out.size))
      clear ho hb hsd
      refine hK.out _ _ HS3.out ?_
      clear hK K
      refine tkS 3 ?o11 ?v11 ?l11 ?a11 ?hi11 ?hq11 ?hl11 ?hw11 ?hv11 ?ha11 HS3.out ?hh11
      case hi11 => (simp only [gA,gB,gC]; try rfl)
      case hq11 => exact fun _ _ _ h => h
      case hl11 => (simp only [gD,gE,gF]; try rfl)
      case hw11 => rfl
      case hv11 =>
       intro W hW
       go_simp
       try with_reducible rfl
      case ha11 => (simp only [Act.put,gD,gE,gF]; try rfl)
      refine wpAnyH_ready (rs := [8]) (by kernel_rfl) (by simp) ?_
      refine rh_cons (i := 8) (o := ?o12) (listed' := ?l12) ?hi12 ?hl12 ?hg12 ?hh12 ?hs12
      case hi12 => (simp only [gA,gB,gC]; try rfl)
      case hl12 => (simp only [gD,gE,gF]; try rfl)
      case hg12 => rfl
      case hs12 => exact AllReadyH.nil
      intro K hK
      go_simp
      refine (hC _).mono ?_
      rintro z w4 ⟨rfl, rfl⟩
      refine hK.out _ _ HS3.out ?_
      clear hK K
      refine tkS 9 ?o13 ?v13 ?l13 ?a13 ?hi13 ?hq13 ?hl13 ?hw13 ?hv13 ?ha13 HS3.out ?hh13
      case hi13 => (simp only [gA,gB,gC]; try rfl)
      case hq13 => exact fun _ _ _ h => h
      case hl13 => (simp only [gD,gE,gF]; try rfl)
      case hw13 => rfl
      case hv13 =>
       intro W hW
       go_simp
       try with_reducible rfl
      case ha13 => (simp only [Act.put,gD,gE,gF]; try rfl)
      refine wpAnyH_done (by kernel_rfl) ?_ _
      have HL3 := hid (HL1.out.on HS3.out)
      have HA3 := hid (HA1.out.on HS3.out)
      have hgb : decide ((rn : Int) < cl) = true := decide_eq_true h2
      go_wp2_with fail
      go_ret
      refine ActP.from (x := x) (ActP.still HL1.out HA1.out HS3.out : ActP w1 B q b n nd N f p x' _ _ w3) ((Tch.ofBelow HB0.out).trans (HT1.out.mono fun k e => .inr e)) HC.out (fun k hk => (HFR.out k hk).imp id (fun h => Nat.le_trans HB0.out.size h)) |> fun h => ?_
      rw [HAT.out] at h
      exact h
   · as_aux_lemma =>
      rw [if_neg (fun h => h rfl), if_neg h2]
      go_enter Tryz.func33, Tryz.ntmps33
      go_upto_region 4 with (first
       | ((with_reducible refine loadM (x := ?lx14) (b := w.heap.size) (m.m) ?lg14 ?lo14 ?lxx14 ?lc14 ?lh14); (case lg14 => rfl); (case lo14 => rfl); (case lxx14 => rfl); (case lc14 => exact HX0.out))
       | (go_at_call 67; refine (cKeepA HA.out HBB.out (by have := HZ.out.len; omega) HM.out HMS.out).mono ?_; rintro e w1 ⟨rfl, x', hatt, hc, hap, htc, hfr, hrs, hvl⟩; have HAT := hid hatt; have HC := hid hc; have HA1 := hid hap; have HT1 := hid htc; have HFR := hid hfr; have HZ1 := hid (HZ.out.add hc hrs hvl HMS.out); have HVL := hid hvl; have HL1 := hid (HL.out.tch htc (HL.out.qa HA.out).1 (HL.out.qa HA.out).2); have HB1 : Hid (B ≤ w1.heap.size) := hid (Nat.le_trans HBB.out htc.size); clear hatt hc hap htc hfr hrs hvl)
       | fail)
      have HAL1 : Hid ((saidM [6] x'.rs).length = al) := hid (by rw [HAL.out, ← HAT.out, accL_an, List.length_map])
      have hal38 : al ≤ 38 := by have h1 := saidM_len [6] x'.rs; have h2 := HZ1.out.len; have h3 := HAL1.out; omega
      refine rh_start (S := fun W => Below w1.heap.size w1 W) (n := 10) (listed := #[false, false, false, false, false, false, false, false, false, false]) (by kernel_rfl) rfl rfl ?_
      have HS0 : Hid (Below w1.heap.size w1 w1.drew) := hid (belowDrew (Below.refl _ w1))
      generalize w1.drew = wd at HS0 ⊢
      refine tkS 0 ?o15 ?v15 ?l15 ?a15 ?hi15 ?hq15 ?hl15 ?hw15 ?hv15 ?ha15 HS0.out ?hh15
      case hi15 => (simp only [List.getElem?_toArray, List.getElem?_cons_zero]; try rfl)
      case hq15 => exact fun _ _ _ h => h
      case hl15 => (simp only [List.setIfInBounds_toArray, List.set_cons_zero]; try rfl)
      case hw15 => rfl
      case hv15 =>
       intro W hW
       go_simp
       try with_reducible rfl
      case ha15 => (simp only [Act.put,gD,gE,gF]; try rfl)
      refine tkS 4 ?o16 ?v16 ?l16 ?a16 ?hi16 ?hq16 ?hl16 ?hw16 ?hv16 ?ha16 HS0.out ?hh16
      case hi16 => (simp only [gA,gB,gC]; try rfl)
      case hq16 => exact fun _ _ _ h => h
      case hl16 => (simp only [gD,gE,gF]; try rfl)
      case hw16 => rfl
      case hv16 =>
       intro W hW
       go_simp
       try with_reducible rfl
      case ha16 => (simp only [Act.put,gD,gE,gF]; try rfl)
      refine tkS 5 ?o17 ?v17 ?l17 ?a17 ?hi17 ?hq17 ?hl17 ?hw17 ?hv17 ?ha17 HS0.out ?hh17
      case hi17 => (simp only [gA,gB,gC]; try rfl)
      case hq17 => exact fun _ _ _ h => h
      case hl17 => (simp only [gD,gE,gF]; try rfl)
      case hw17 => rfl
      case hv17 =>
       intro W hW
       go_simp
       try with_reducible rfl
      case ha17 => (simp only [Act.put,gD,gE,gF]; try rfl)
      refine tkS 6 ?o18 ?v18 ?l18 ?a18 ?hi18 ?hq18 ?hl18 ?hw18 ?hv18 ?ha18 HS0.out ?hh18
      case hi18 => (simp only [gA,gB,gC]; try rfl)
      case hq18 => exact fun _ _ _ h => h
      case hl18 => (simp only [gD,gE,gF]; try rfl)
      case hw18 => rfl
      case hv18 =>
       intro W hW
       go_simp
       try with_reducible rfl
      case ha18 => (simp only [Act.put,gD,gE,gF]; try rfl)
      refine tkS 7 ?o19 ?v19 ?l19 ?a19 ?hi19 ?hq19 ?hl19 ?hw19 ?hv19 ?ha19 HS0.out ?hh19
      case hi19 => (simp only [gA,gB,gC]; try rfl)
      case hq19 => exact fun _ _ _ h => h
      case hl19 => (simp only [gD,gE,gF]; try rfl)
      case hw19 => rfl
      case hv19 =>
       intro W hW
       obtain ⟨k0, k1, k2⟩ := (HL1.out.on hW).cells
       go_simp
       try with_reducible rfl
      case ha19 => (simp only [Act.put,gD,gE,gF]; try rfl)
      refine wpAnyH_ready (rs := [1]) (by kernel_rfl) (by simp) ?_
      refine rh_cons (i := 1) (o := ?o20) (listed' := ?l20) ?hi20 ?hl20 ?hg20 ?hh20 ?hs20
      case hi20 => (simp only [gA,gB,gC]; try rfl)
      case hl20 => (simp only [gD,gE,gF]; try rfl)
      case hg20 => rfl
      case hs20 => exact AllReadyH.nil
      intro K hK
      go_simp
      obtain ⟨W2, hW2⟩ : ∃ z, z = wd.alloc (.cells #[.int .i64 6] 46) := ⟨_, rfl⟩
      rw [← hW2]
      have HB2 : Hid (Below wd.heap.size wd W2) := hid (by rw [hW2]; exact laid1_b wd _)
      have HR2 : Hid (SoR W2 wd.heap.size [6]) := hid (by rw [hW2]; exact sor1 wd 6)
      have HX2 : Hid (wd.heap.size < W2.heap.size) := hid (by rw [hW2]; simp)
      clear hW2
      have HS2 := hid (HS0.out.trans (HB2.out.mono HS0.out.size))
      refine hK.out _ _ HS2.out ?_
      clear hK K
      have hsd := cSaid (cap := 1) (HA1.out.on HS2.out) (by have := HZ1.out.len; omega) HR2.out HX2.out (by decide)
      refine wpAnyH_ready (rs := [2]) (by kernel_rfl) (by simp) ?_
      refine rh_cons (i := 2) (o := ?o21) (listed' := ?l21) ?hi21 ?hl21 ?hg21 ?hh21 ?hs21
      case hi21 => (simp only [gA,gB,gC]; try rfl)
      case hl21 => (simp only [gD,gE,gF]; try rfl)
      case hg21 => rfl
      case hs21 => exact AllReadyH.nil
      intro K hK
      go_simp
      refine hsd.mono ?_
      rintro z w3 ⟨v0, rfl, ho, hb⟩
      obtain ⟨ra, rc, rn, rfl, hrn⟩ := OwnG.asSlice ho
      obtain rfl : rn = al := (by rw [hrn, ← HAL1.out]; unfold mgs; rw [List.length_map])
      clear hrn
      have HS3 := hid (HS2.out.trans (hb.mono HS2.out.size))
      clear ho hb hsd
      refine hK.out _ _ HS3.out ?_
      clear hK K
      refine tkS 3 ?o22 ?v22 ?l22 ?a22 ?hi22 ?hq22 ?hl22 ?hw22 ?hv22 ?ha22 HS3.out ?hh22
      case hi22 => (simp only [gA,gB,gC]; try rfl)
      case hq22 => exact fun _ _ _ h => h
      case hl22 => (simp only [gD,gE,gF]; try rfl)
      case hw22 => rfl
      case hv22 =>
       intro W hW
       go_simp
       try with_reducible rfl
      case ha22 => (simp only [Act.put,gD,gE,gF]; try rfl)
      refine wpAnyH_ready (rs := [8]) (by kernel_rfl) (by simp) ?_
      refine rh_cons (i := 8) (o := ?o23) (listed' := ?l23) ?hi23 ?hl23 ?hg23 ?hh23 ?hs23
      case hi23 => (simp only [gA,gB,gC]; try rfl)
      case hl23 => (simp only [gD,gE,gF]; try rfl)
      case hg23 => rfl
      case hs23 => exact AllReadyH.nil
      intro K hK
      go_simp
      refine (hC _).mono ?_
      rintro z w4 ⟨rfl, rfl⟩
      refine hK.out _ _ HS3.out ?_
      clear hK K
      refine tkS 9 ?o24 ?v24 ?l24 ?a24 ?hi24 ?hq24 ?hl24 ?hw24 ?hv24 ?ha24 HS3.out ?hh24
      case hi24 => (simp only [gA,gB,gC]; try rfl)
      case hq24 => exact fun _ _ _ h => h
      case hl24 => (simp only [gD,gE,gF]; try rfl)
      case hw24 => rfl
      case hv24 =>
       intro W hW
       go_simp
       try with_reducible rfl
      case ha24 => (simp only [Act.put,gD,gE,gF]; try rfl)
      refine wpAnyH_done (by kernel_rfl) ?_ _
      have HL3 := hid (HL1.out.on HS3.out)
      have HA3 := hid (HA1.out.on HS3.out)
      have hgb : decide ((rn : Int) < cl) = false := decide_eq_false (by omega)
      have hca := cFinish HL3.out HA3.out HNN.out (Nat.le_trans HB1.out HS3.out.size) HZ1.out.wf (vt := x'.vt) HA3.out.vs HZ1.out.vl
      rw [HAT.out] at hca
      have HV1 : Hid (x'.vt = x.vt) := hid (congrArg Att.vt HAT.out)
      go_wp2_with (first
       | ((with_reducible refine loadVl (x := ?vx25) (b := p) (o := 9) x'.vt x'.vp ?vg25 ?vo25 ?vxx25 ?vc25 ?_); (case vg25 => rfl); (case vo25 => rfl); (case vxx25 => rfl); (case vc25 => exact HA3.out.ob.valR))
       | (go_at_call 29; refine hca.mono ?_; intro e w6 h2; have H2 := hid h2; obtain ⟨v, ls, rfl, h3⟩ := h2; have H3 := hid h3; clear h3 hca)
       | fail)
      go_ret
      have h9 := ActP.from (x := x) H2.out (((Tch.ofBelow HB0.out).trans (HT1.out.mono fun k e => .inr e)).trans (Tch.ofBelow HS3.out)) HC.out (fun k hk => (HFR.out k hk).imp id (fun h => Nat.le_trans HB0.out.size h))
      rw [HV1.out, HVL.out] at h9
      exact h9
end Go.Proofs.YtplodoindppleaaGreat
