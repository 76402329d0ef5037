import Derived.Test.YtmggggijamligaaG14
namespace Go.Proofs.Ytmggggijamligaa
set_option linter.unusedVariables false
open Go.RowKit
open Go.Lib (hid)
theorem wp_append_c1 {w : World} {o : Oper} {a : Act} {K : Act → World → Prop} {Q : Exit → Act → World → Prop} (s x : Operand) (ho : o.op = .call { callee := .builtin .append, args := #[s, x], argTypes := #[35, 35] })
    (B : Nat) (v : Value) (cs : List C7) (hs : a.eval s = v) (hown : Own w B v cs) (g : Nat) (d : C7) (hx : a.eval x = .slice (some ⟨g, 0, none⟩) 1 1) (h2 : w.heap[g]? = some (.cells d.cells.toArray 31 (0, 0))) (hlen : cs.length ≤ 1000000) (hbase : B ≤ w.heap.size)
    (h : ∀ v' w', Own w' B v' (cs ++ [d]) → w.grownBy w' v.ownBlock → K (a.put o.dst v') w') : o.wp Try.prog a w K Q := by
  obtain ⟨i0, hi, hz0, hz1, hz2⟩ := info_parts Try.infoC
  refine wp_append_own _ s x 35 ho B 31 i0 _ 7 56 Try.underlying35 hi hz0 hz1 hz2 rfl (by decide) v cs.length (flat cs) hs hown ⟨g, 0, none⟩ 1 1 d.cells hx rfl (fun j u hu => by rw [addr_add, cellAt' h2 j, ← Array.getElem?_toList]; exact hu) (fun u hu => by simp at hu; rcases hu with rfl | rfl | rfl | rfl | rfl | rfl | rfl <;> rfl) (by unfold maxLen; omega) (by omega) hbase ?_
  intro v' w' ho' hg _
  exact h v' w' (by show World.ownsRow _ _ _ _ _ _ _; rw [flat_append, flat_single, List.length_append]; exact ho') hg
set_option maxHeartbeats 8000000 in
set_option maxRecDepth 100000 in
theorem cDeliver {W0 W : World} {p : Rv} {l : List En} {had h st : List Int} {bh : Int → List Int} {tu : List Tn} {tl : List C7} (hP : Rn W0 W p l had st bh tu tl) (hl : l.length ≤ 1000) (hs : ∀ y ∈ l, y.short 100) {i : Nat} {x : En} (hr : readyB l h i x = true) (R : Rdy l had h i x) (hst : StG l (cntAt l had h) st) (hbh : BhG l (behAt l had) bh) (hhp : HeapTo tu tu.length) (hng : p.ng ≤ 200000) (htl : tl.length ≤ 1000) (hT : TuG l (fun q y => readyB l h q y = true ∧ q ≠ i) tu) :
    Calls Try.prog 31 #[.pointer (some ⟨p.R, 0, none⟩), .int .i64 i] W fun e W' => e = .returned (.tuple #[]) ∧ ∃ p' st' tu', Rn W0 W' p' l had st' bh tu' (tl ++ [x.e.c]) ∧ p'.R = p.R ∧ p'.ng = p.ng ∧ StG l (cntAt l had (h ++ [x.id])) st' ∧ HeapTo tu' tu'.length ∧ TuG l (fun q y => readyB l (h ++ [x.id]) q y = true) tu' := by
  obtain ⟨b, o, cap, hlv, hbw, hrg⟩ := hP.sd.sl.entry R.hx
  have hil := (List.getElem?_eq_some_iff.1 R.hx).1
  have HLL := hid hl
  have HSS := hid hs
  obtain ⟨m, hm⟩ : ∃ m, m = l.length := ⟨_, rfl⟩
  have HM := hid hm
  rw [← hm] at hlv hil hl
  obtain ⟨c, hc⟩ : ∃ c, c = x.e.c := ⟨_, rfl⟩
  obtain ⟨k0, k1, k2, k3, k4, k5, k6⟩ : CmdR W b (o + i * 19) c := by rw [hc]; exact cmd_range (fun j u hu => (hP.sd.bel.cell hbw).trans (hrg j u hu))
  have HCX := hid hc
  have HR := hid R
  have HRY := hid hr
  have HPP := hid hP
  have HST := hid hst
  have HBH := hid hbh
  have HHP := hid hhp
  have HNG := hid hng
  have HTL := hid htl
  have HTU := hid (R.first hT)
  have HWI : Hid (wfI c.i) := hid (by rw [hc]; exact (hP.sd.wf.1 x (List.mem_of_getElem? R.hx)).1)
  have HXI : Hid (c.i = x.id) := hid (by rw [hc])
  obtain ⟨PR, hPR⟩ : ∃ z, z = p.R := ⟨_, rfl⟩
  have HPR := hid hPR
  have c0 : W.cell? ⟨PR, 0, none⟩ = some (.slice (some ⟨b, o, none⟩) m cap) := by rw [hPR, ← hlv]; exact hP.cell rfl
  have hji : ((i : Int) < m) := by omega
  rw [← hc, ← hPR]
  clear hs hP R hr hst hbh hhp hng htl hT hc hPR hm hlv hrg
  go_enter Try.func31, Try.ntmps31
  go_upto_region 1 with fail
  have HBA : Hid (Below W.heap.size W (W.alloc (.cells #[.int .i64 c.i, .int .i64 c.k, .int .i64 c.s, .int .i64 c.t, .int .i64 c.d, .int .i64 c.p, .int .i64 c.q] 31))) := hid ((Below.refl _ W).alloc (Nat.le_refl _) _)
  have HNA : Hid ((W.alloc (.cells #[.int .i64 c.i, .int .i64 c.k, .int .i64 c.s, .int .i64 c.t, .int .i64 c.d, .int .i64 c.p, .int .i64 c.q] 31)).heap[W.heap.size]? = some (.cells c.cells.toArray 31 (0, 0))) := hid (heap_alloc_new W _)
  generalize W.alloc (.cells #[.int .i64 c.i, .int .i64 c.k, .int .i64 c.s, .int .i64 c.t, .int .i64 c.d, .int .i64 c.p, .int .i64 c.q] 31) = wa at HBA HNA ⊢
  clear k0 k1 k2 k3 k4 k5 k6 c0
  have HPA : Hid (Rn W0 wa.drew p l had st bh tu tl) := hid (HPP.out.on (belowDrew HBA.out))
  have HND : Hid (wa.drew.heap[W.heap.size]? = some (.cells c.cells.toArray 31 (0, 0))) := hid HNA.out
  obtain ⟨oa, on, oc, hov⟩ : ∃ oa on oc, p.ov = .slice oa on oc := by
    rcases HPP.out.td.shape with ⟨e, _⟩ | ⟨g, cap, e, _⟩
    · exact ⟨_, _, _, e⟩
    · exact ⟨_, _, _, e⟩
  have HOV := hid hov
  refine rg_start (g := 10) (S0 := fun W' => W'.heap[W.heap.size]? = some (.cells c.cells.toArray 31 (0, 0))) (S1 := fun W' => W'.cell? ⟨PR, 6, none⟩ = some (.slice oa on oc)) (n := 11) (listed := #[false, false, false, false, false, false, false, false, false, false, false]) (by kernel_rfl) (by rfl) (by rfl) ?_
  generalize wa.drew = wd at HPA HND ⊢
  have HG : Hid (∀ L, GS 10 (fun W' => W'.heap[W.heap.size]? = some (.cells c.cells.toArray 31 (0, 0))) (fun W' => W'.cell? ⟨PR, 6, none⟩ = some (.slice oa on oc)) L wd) := hid (fun L => ⟨HND.out, .inr (by rw [HPR.out, ← HOV.out]; exact HPA.out.cell rfl)⟩)
  have HRG : Hid (∀ W' : World, W'.heap[W.heap.size]? = some (.cells c.cells.toArray 31 (0, 0)) → W'.rangeAt W.heap.size 0 c.cells) := hid (fun W' h j u hu => by rw [Nat.zero_add]; exact (cellAt' h j).trans (by rw [← Array.getElem?_toList]; exact hu))
  clear hov
  refine gt 0 (HG.out _) ?_
  refine gt 1 (HG.out _) ?_
  refine gt 2 (HG.out _) ?_
  refine gt 3 (HG.out _) ?_
  refine gt1 4 (HG.out _) ?_ (hv := by (intro W2 hW2; have c := hW2.2; go_simp; try with_reducible rfl))
  refine gl 5 c.cells W.heap.size 0 (fun W2 hW2 => HRG.out W2 hW2.1) Try.underlying31 (HG.out _) ?_
  refine go1 6 ?_
  intro K hK
  refine wp_bs1 c.cells.toArray rfl rfl Try.underlying35 Try.sizeOf31 Try.zeroValue31 rfl (by decide) (by decide) ?_
  have HBB : Hid (Below wd.heap.size wd (wd.alloc (.cells c.cells.toArray 31))) := hid ((Below.refl _ wd).alloc (Nat.le_refl _) _)
  have HNB : Hid ((wd.alloc (.cells c.cells.toArray 31)).heap[wd.heap.size]? = some (.cells c.cells.toArray 31 (0, 0))) := hid (heap_alloc_new wd _)
  generalize wd.alloc (.cells c.cells.toArray 31) = wb at HBB HNB ⊢
  have HPB : Hid (Rn W0 wb p l had st bh tu tl) := hid (HPA.out.on HBB.out)
  have HNX : Hid (wb.heap[W.heap.size]? = some (.cells c.cells.toArray 31 (0, 0))) := hid (obOn HND.out HBB.out (Array.getElem?_eq_some_iff.1 HND.out).1)
  refine hK.out _ _ ⟨HNX.out, .inr (by rw [HPR.out, ← HOV.out]; exact HPB.out.cell rfl)⟩ ?_
  clear hK K
  refine go1 7 ?_
  intro K hK
  refine wp_append_c1 _ _ rfl W0.heap.size (.slice oa on oc) tl rfl (by rw [← HOV.out]; exact HPB.out.td) wd.heap.size c rfl HNB.out (by have := HTL.out; omega) HPB.out.sd.bel.size ?_
  intro v2 wx hv2 hgx
  have HV2 := hid hv2
  have HGX : Hid (wb.grownBy wx p.ov.ownBlock) := hid (by rw [HOV.out]; exact hgx)
  clear hv2 hgx
  have HNX2 : Hid (wx.heap[W.heap.size]? = some (.cells c.cells.toArray 31 (0, 0))) := hid ((HGX.out.block _ (Array.getElem?_eq_some_iff.1 HNX.out).1 (fun e => by have := (HPP.out.td.lt _ e.symm).2; omega)).trans HNX.out)
  have HRX : Hid (wx.heap[p.R]? = some (.cells (rnC p) 73 (0, 0))) := hid ((HGX.out.block _ HPB.out.R_lt (fun e => by
    obtain ⟨cur, hcu⟩ := own_ty HPB.out.td e.symm
    exact absurd (tyNe HPB.out.blk hcu) (by decide))).trans HPB.out.blk)
  have HC6 : Hid (wx.cell? ⟨PR, 6, none⟩ = some (.slice oa on oc)) := hid (by rw [HPR.out, ← HOV.out]; exact (cellAt' HRX.out 6).trans rfl)
  refine hK.out _ _ ⟨HNX2.out, .inr HC6.out⟩ ?_
  clear hK K
  refine gt 8 ⟨HNX2.out, .inr HC6.out⟩ ?_
  refine gt 9 ⟨HNX2.out, .inr HC6.out⟩ ?_
  refine go1 10 ?_
  intro K hK
  have c6 := HC6.out
  have f6 : wx.frozen? ⟨PR, 6, none⟩ = false := by rw [HPR.out]; exact frozenR HRX.out 6
  obtain ⟨va, vn, vc, hv2⟩ : ∃ va vn vc, v2 = .slice va vn vc := by
    rcases HV2.out.shape with ⟨e, _⟩ | ⟨g, cap, e, _⟩
    · exact ⟨_, _, _, e⟩
    · exact ⟨_, _, _, e⟩
  subst hv2
  go_simp
  have HP3 : Hid (Rn W0 (wx.setCell ⟨PR, 6, none⟩ (.slice va vn vc)) { p with ov := .slice va vn vc } l had st bh tu (tl ++ [c])) := hid (by rw [HPR.out]; exact HPB.out.told HGX.out HV2.out)
  have HN3 : Hid ((wx.setCell ⟨PR, 6, none⟩ (.slice va vn vc)).heap[W.heap.size]? = some (.cells c.cells.toArray 31 (0, 0))) := hid (((grownSet wx ⟨PR, 6, none⟩ _).block _ (Array.getElem?_eq_some_iff.1 HNX2.out).1 (fun e => by have h6 := HPP.out.R_lt; have e2 : W.heap.size = PR := Option.some.inj e; rw [HPR.out] at e2; omega)).trans HNX2.out)
  refine hK.out _ _ ⟨HN3.out, .inl rfl⟩ ?_
  clear hK K c6 f6
  refine rg_done (by kernel_rfl) ?_ _
  generalize wx.setCell ⟨PR, 6, none⟩ (.slice va vn vc) = w3 at HP3 HN3 ⊢
  obtain ⟨p3, hp3⟩ : ∃ z, z = { p with ov := Value.slice va vn vc } := ⟨_, rfl⟩
  rw [← hp3] at HP3
  have HP3R : Hid (p3.R = p.R ∧ p3.ng = p.ng) := hid (by rw [hp3]; exact ⟨rfl, rfl⟩)
  clear hp3
  go_upto_region 2 with fail
  have HP4 : Hid (Rn W0 w3.drew p3 l had st bh tu (tl ++ [c])) := hid (HP3.out.on (belowDrew (Below.refl _ _)))
  obtain ⟨v, D, hlk, hoi, hzl, _, _, _⟩ := HP4.out.sd.gr.look (i := c.i) (by have := HP3R.out.2; have := HNG.out; unfold maxLen; omega) HWI.out
  have LK := hid hlk
  have HOI := hid hoi
  obtain ⟨ga, gn, gc, hv⟩ : ∃ ga gn gc, v = .slice ga gn gc ∧ gn = (bh c.i).length := by
    rcases hoi.1.2 with ⟨e, e0⟩ | ⟨g, cap, cur, e, _⟩
    · exact ⟨none, 0, 0, e, e0.symm⟩
    · exact ⟨_, _, cap, e, rfl⟩
  obtain ⟨hv, hgn⟩ := hv
  subst hv
  have HGN := hid hgn
  have hgn9 : gn ≤ 300000 := by have := HP3R.out.2; have := HNG.out; omega
  clear hlk hoi hgn hzl
  have HND3 : Hid (w3.drew.heap[W.heap.size]? = some (.cells c.cells.toArray 31 (0, 0))) := hid HN3.out
  refine d0 (Below w3.drew.heap.size w3.drew) 9 (Array.replicate 9 false) ?_
  rw [show Array.replicate 9 false = #[false, false, false, false, false, false, false, false, false] from rfl]
  have HS0 : Hid (Below w3.drew.heap.size w3.drew w3.drew) := hid (Below.refl _ _)
  generalize w3.drew = wd3 at HP4 LK HOI HND3 HS0 ⊢
  have C4 : Hid (∀ W2, Below wd3.heap.size wd3 W2 → W2.cell? ⟨PR, 4, none⟩ = some (.map (some p3.M))) := hid (fun W2 hW2 => by rw [HPR.out, ← HP3R.out.1]; exact (HP4.out.on hW2).cell rfl)
  have CB : Hid (∀ W2, Below wd3.heap.size wd3 W2 → W2.cell? ⟨W.heap.size, 0, none⟩ = some (.int .i64 c.i)) := hid (fun W2 hW2 => (cellAt' (obOn HND3.out hW2 (Array.getElem?_eq_some_iff.1 HND3.out).1) 0).trans rfl)
  have LK2 : Hid (∀ W2, Below wd3.heap.size wd3 W2 → Sem.run Try.prog (Instr.lookup 69 (.map (some p3.M)) (.int .i64 c.i) false) W2 = .ok (.slice ga gn gc) W2) := hid (fun W2 hW2 => LK.out W2 (hW2.block _ HP4.out.sd.gr.lt))
  refine dt 0 HS0.out ?_
  refine dt 1 HS0.out ?_
  refine dt 2 HS0.out ?_
  refine dt 3 HS0.out ?_ (hv := by (intro W2 hW2; have c := C4.out W2 hW2; go_simp; try with_reducible rfl))
  refine dt 4 HS0.out ?_
  refine dt 5 HS0.out ?_ (hv := by (intro W2 hW2; have c := CB.out W2 hW2; go_simp; try with_reducible rfl))
  refine dt 6 HS0.out ?_ (hv := by (intro W2 hW2; have c := LK2.out W2 hW2; go_simp; try with_reducible rfl))
  refine dt 7 HS0.out ?_
  refine dt 8 HS0.out ?_
  have HSF : Hid (Below wd3.heap.size wd3 wd3) := HS0
  refine wpAnyH_done (by kernel_rfl) ?_ _
  go_wp2_with fail
  clear C4 CB LK2 LK
  have HP5 : Hid (Rn W0 wd3 p3 l had st bh tu (tl ++ [c])) := hid (HP4.out.on HSF.out)
  have HO5 : Hid (wd3.ownsInts p3.Bg 3 .i64 (.slice ga gn gc) (bh c.i)) := hid (ints_tch HOI.out (Tch.ofBelow (S := fun _ => False) HSF.out) (fun _ _ h => h))
  go_loopw [34] (fun s34 wr => ∃ (mm : Nat) (q : Rv) (su : List Int) (tv : List Tn), mm ≤ gn ∧ s34 = .int .i64 mm ∧ Hid (Rn W0 wr q l had su bh tv (tl ++ [c])) ∧ Hid (q.R = PR ∧ q.ng = p.ng ∧ q.Bg = p3.Bg) ∧ Hid (wr.ownsInts p3.Bg 3 .i64 (.slice ga gn gc) (bh c.i)) ∧ Hid (StG l (fun j => cntAt l had h j - ((bh c.i).take mm).count (j : Int)) su) ∧ Hid (HeapTo tv tv.length) ∧ Hid (TuG l (fun u y => waitB l (h ++ [x.id]) u y = true ∧ cntAt l had h u - ((bh c.i).take mm).count (u : Int) = 0) tv)) (fun s34 _ => gn - (RowKit.intOf s34).toNat)
  case atStart => exact ⟨0, p3, st, tu, Nat.zero_le _, rfl, HP5, hid ⟨HP3R.out.1.trans HPR.out.symm, HP3R.out.2, rfl⟩, HO5, hid (HST.out.same fun j _ => by simp), HHP, hid (HTU.out.keep (List.Perm.refl _) fun u y _ => by simp)⟩
  case round =>
    obtain ⟨mm, q, su, tv, hmm, rfl, HQ, HQR, HOW, HSU, HHV, HTV⟩ := hrel
    have HCNT : Hid (∀ j, j < l.length → (bh c.i).count (j : Int) = behAt l had x.id j) := hid (fun j hj => by rw [(HBH.out c.i).2 j hj, HXI.out])
    by_cases hlt : mm < gn
    · have hlti : ((mm : Int) < gn) := by omega
      obtain ⟨z, hz⟩ : ∃ z, (bh c.i)[mm]? = some z := ⟨(bh c.i)[mm]'(by rw [← HGN.out]; exact hlt), List.getElem?_eq_getElem (by rw [← HGN.out]; exact hlt)⟩
      obtain ⟨k, rfl, hkl⟩ := (HBH.out c.i).1 z (List.mem_of_getElem? hz)
      obtain ⟨gb, hga⟩ : ∃ gb, ga = some ⟨gb, 0, none⟩ := by
        rcases HOW.out.1.2 with ⟨e, e0⟩ | ⟨g, cap, cur, e, _⟩
        · rw [← HGN.out] at e0; omega
        · injection e with e1 _ _; exact ⟨g, e1⟩
      subst hga
      have hcell : wr.cell? ⟨gb, mm, none⟩ = some (.int .i64 (k : Int)) := by
        have := (HOW.out.1.cells (g := gb) rfl) mm (.int .i64 (k : Int)) (by rw [List.getElem?_map, hz]; rfl)
        rw [addr_add] at this
        exact this
      obtain ⟨y, hy⟩ : ∃ y, l[k]? = some y := ⟨l[k], List.getElem?_eq_getElem hkl⟩
      rw [← HM.out] at hkl
      have HZ := hid hz
      have HY := hid hy
      have hsl : su.length = m := by rw [HSU.out.1, HM.out]
      obtain ⟨g, gcap, hsv, hgw, hsc, hsf⟩ := HQ.out.svs (by omega)
      rw [hsl] at hsv
      obtain ⟨cv, hcv⟩ : ∃ z, z = cntAt l had h k - ((bh c.i).take mm).count (k : Int) := ⟨_, rfl⟩
      have HCV := hid hcv
      have hc1 : 1 ≤ cv ∧ cv ≤ 100 := by
        have h1 := count_take HZ.out (k : Int)
        rw [if_pos rfl] at h1
        have h2 := count_take_le (bh c.i) (mm + 1) (k : Int)
        have h3 := HCNT.out k (by rw [← HM.out]; exact hkl)
        have h4 := HR.out.split k
        have h5 : cntAt l had h k ≤ 100 := by
          rw [cntAt_some hy]
          unfold cntO cntP
          split
          · exact Nat.le_trans List.countP_le_length (HSS.out y (List.mem_of_getElem? hy)).2.2
          · omega
        omega
      have s3 : wr.cell? ⟨PR, 3, none⟩ = some (.slice (some ⟨g, 0, none⟩) m gcap) := by rw [← HQR.out.1, ← hsv]; exact HQ.out.cell rfl
      have sc : wr.cell? ⟨g, k, none⟩ = some (.int .i64 (cv : Int)) := hsc k _ (by have e := HSU.out.2 k (by rw [← HM.out]; exact hkl); simp only at e; rw [e, hcv])
      have sf := hsf k
      have hki : ((k : Int) < m) := by omega
      have HSV := hid hsv
      have hgbne : Hid (∀ j, (Value.slice (some ⟨gb, 0, none⟩) gn gc).ownBlock = some j → ¬ j = g) := hid (fun j hj e => by
        have e1 := (HOW.out.1.lt j hj).1
        have e2 := HQ.out.sd.sb g (by rw [HSV.out]; rfl)
        rw [HQR.out.2.2] at e2
        omega)
      clear hsc hsf hsv hcv hz hy
      go_upto_region 6 with fail
      obtain ⟨nv, hnv⟩ : ∃ z : Nat, z = cv - 1 := ⟨_, rfl⟩
      have hnv2 : ((cv : Int) - 1) = (nv : Int) := by omega
      rw [hnv2]
      have HQ5 : Hid (Rn W0 (wr.setCell ⟨g, k, none⟩ (.int .i64 (nv : Int))) q l had (su.set k (nv : Int)) bh tv (tl ++ [c])) := hid (HQ.out.stored HSV.out hsl.symm k _)
      have HO6 : Hid ((wr.setCell ⟨g, k, none⟩ (.int .i64 (nv : Int))).ownsInts p3.Bg 3 .i64 (.slice (some ⟨gb, 0, none⟩) gn gc) (bh c.i)) := hid (ints_tch HOW.out (Tch.ofGrown (S := fun j => j = g) (grownSet wr ⟨g, k, none⟩ _) (fun j hj => by cases hj; rfl)) hgbne.out)
      have hgl := hgw
      have scb : (wr.setCell ⟨g, k, none⟩ (.int .i64 (nv : Int))).cell? ⟨g, k, none⟩ = some (.int .i64 (nv : Int)) := World.cell?_setCell_same _ _ _ sc
      generalize wr.setCell ⟨g, k, none⟩ (.int .i64 (nv : Int)) = W5 at HQ5 HO6 scb ⊢
      have s3b : W5.cell? ⟨PR, 3, none⟩ = some (.slice (some ⟨g, 0, none⟩) m gcap) := by rw [← HQR.out.1, ← HSV.out]; exact HQ5.out.cell rfl
      clear s3 sc sf hcell
      have HNC : Hid (∀ u : Nat, u ≠ k → ((bh c.i).take (mm + 1)).count (u : Int) = ((bh c.i).take mm).count (u : Int)) := hid (fun u hu => by
        have := count_take HZ.out (u : Int)
        rw [if_neg (by omega)] at this
        exact this)
      have HKC : Hid (cntAt l had h k - ((bh c.i).take (mm + 1)).count (k : Int) = nv) := hid (by
        have h1 := count_take HZ.out (k : Int)
        rw [if_pos rfl] at h1
        rw [h1, hnv, HCV.out]; omega)
      have HSU2 : Hid (StG l (fun j => cntAt l had h j - ((bh c.i).take (mm + 1)).count (j : Int)) (su.set k (nv : Int))) := hid (HSU.out.set nv HKC.out (fun j hj => by simp only [HNC.out j hj]))
      have HTN : Hid (∀ tv' : List Tn, tv'.Perm (if nv = 0 then (y.e.vt, k) :: tv else tv) → TuG l (fun u y => waitB l (h ++ [x.id]) u y = true ∧ cntAt l had h u - ((bh c.i).take (mm + 1)).count (u : Int) = 0) tv') := hid (fun tv' hp => tu_next HR.out HZ.out HY.out HCNT.out HTV.out (by rw [HKC.out]; exact hp))
      have HTL2 : Hid (tv.length ≤ 900000) := hid (by have := HTV.out.len; rw [← HM.out] at this; omega)
      clear hnv hnv2
      rcases Nat.eq_zero_or_pos nv with hz0 | hz0
      · subst hz0
        have hL := cLine HQ5.out HLL.out HY.out HHV.out HTL2.out
        rw [HQR.out.1] at hL
        go_wp2_with (first
          | (go_at_call 33; refine hL.mono ?_; clear hL; rintro e w1 ⟨rfl, tv2, tu2, hp2, hh2, hr2, ht2⟩; have HP2 := hid hp2; have HH2 := hid hh2; have HR2 := hid hr2; have HT2 := hid ht2; clear hp2 hh2 hr2 ht2)
          | fail)
        go_roundw
        case rel => exact ⟨mm + 1, { q with tv := tv2 }, _, tu2, by omega, by go_num, hid (by have := HR2.out; rw [← HQR.out.1] at this; exact this), hid ⟨HQR.out.1, HQR.out.2.1, HQR.out.2.2⟩, hid (ints_tch HO6.out HT2.out (fun j hj hs => by
            obtain ⟨cur, hcu⟩ := ints_int HO6.out hj
            rcases hs with hs | hs
            · subst hs
              have := HQ5.out.blk
              rw [HQR.out.1] at this
              exact absurd (tyNe this hcu) (by decide)
            · obtain ⟨c2, hc2⟩ := ownT_ty HQ5.out.tu hs
              exact absurd (tyNe hc2 hcu) (by decide))), HSU2, HH2, hid (HTN.out tu2 (by simp only [if_true]; exact HP2.out))⟩
        case measure => first | omega | (simp [RowKit.intOf]; omega)
      · have hzb : ((nv : Int) == 0) = false := by simp; omega
        go_wp2_with fail
        go_roundw
        case rel => exact ⟨mm + 1, q, _, tv, by omega, by go_num, HQ5, HQR, HO6, HSU2, HHV, hid (HTN.out tv (by rw [if_neg (by omega)]))⟩
        case measure => first | omega | (simp [RowKit.intOf]; omega)
    · have hlti : ¬ ((mm : Int) < gn) := by omega
      have hmg : mm = gn := by omega
      have HTK : Hid ((bh c.i).take mm = bh c.i) := hid (by rw [hmg, HGN.out]; exact List.take_length)
      go_wp2_with fail
      go_end0
      have he : ∀ j, j < l.length → cntAt l had h j - ((bh c.i).take mm).count (j : Int) = cntAt l had (h ++ [x.id]) j := fun j hj => by
        rw [HTK.out, HCNT.out j hj]
        have := HR.out.split j
        omega
      refine ⟨rfl, q, su, tv, HQ.out, HQR.out.1, HQR.out.2.1, HSU.out.same fun j hj => (he j hj).symm, HHV.out, HR.out.last HRY.out (HTV.out.keep (List.Perm.refl _) fun u y hy => ?_)⟩
      rw [he u (List.getElem?_eq_some_iff.1 hy).1]
end Go.Proofs.Ytmggggijamligaa
namespace Go.Proofs.Ytmggggijamligaa
set_option linter.unusedVariables false
open Go.RowKit
open Go.Lib (hid)
structure Fin (W0 W : World) (p : Rv) (l : List En) (had st : List Int) (bh : Int → List Int) (tu : List Tn) (tl : List C7) : Prop where
  rn : Rn W0 W p l had st bh tu tl
  st : StG l (cntAt l had (had ++ idsL tl)) st
  bh : BhG l (behAt l had) bh
  hp : HeapTo tu tu.length
  ng : p.ng ≤ 200000
  tu : TuG l (fun q x => readyB l (had ++ idsL tl) q x = true) tu
  tol : ToldOK l had (had ++ idsL tl)
  all : tl ++ allF l (had ++ idsL tl) = allF l had
  len : tl.length + leftN l (had ++ idsL tl) ≤ l.length
def toldLen (R : Nat) (w : World) : Nat := match w.cell? ⟨R, 6, none⟩ with
  | some v => lenS v
  | none => 0
theorem toldLen_eq {W0 W : World} {p : Rv} {l : List En} {had st : List Int} {bh : Int → List Int} {tu : List Tn} {tl : List C7} (h : Rn W0 W p l had st bh tu tl) : toldLen p.R W = tl.length := by
  unfold toldLen
  rw [h.cell (j := 6) (v := p.ov) rfl]
  exact h.td.lenS
theorem least {l : List En} {h : List Int} {tu : List Tn} {n : Nat} (hT : TuG l (fun q x => readyB l h q x = true) tu) (hp : HeapTo tu tu.length) (hn : tu.length = n + 1) : ∃ i x, atT tu 0 = (x.e.vt, i) ∧ l[i]? = some x ∧ readyB l h i x = true ∧ nextN l h = some i := by
  obtain ⟨⟨t, i⟩, ha⟩ : ∃ a, a = atT tu 0 := ⟨_, rfl⟩
  have hm : (t, i) ∈ tu := List.mem_of_getElem? (by rw [ha]; exact atT_some (by omega))
  obtain ⟨x, hx, ht, hr⟩ := (hT.2 t i).1 hm
  subst ht
  refine ⟨i, x, ha.symm, hx, hr, next_min hx hr fun j y hy hry => ?_⟩
  have hmj : (y.e.vt, j) ∈ tu := (hT.2 _ _).2 ⟨y, hy, rfl, hry⟩
  obtain ⟨q, hq⟩ := List.mem_iff_getElem?.1 hmj
  have := heap_min hp q (List.getElem?_eq_some_iff.1 hq).1
  rw [atT_of hq, ← ha] at this
  exact this
theorem ids_snoc (tl : List C7) (c : C7) : idsL (tl ++ [c]) = idsL tl ++ [c.i] := by unfold idsL; rw [List.map_append]; rfl
theorem fld_turn (a b : Value) (w : World) : (Instr.field 81 (.agg #[a, b]) 1).run Try.prog w = .ok b w := by kernel_rfl
theorem TuG.pop {l : List En} {P : Nat → En → Prop} {tu tu' : List Tn} {i : Nat} {t : Int} (h : TuG l P tu) (hp : tu.Perm ((t, i) :: tu')) : TuG l (fun q y => P q y ∧ q ≠ i) tu' := by
  have hn := hp.nodup_iff.1 h.1
  obtain ⟨h1, h2⟩ := List.nodup_cons.1 hn
  have ht := (h.2 t i).1 (hp.mem_iff.2 (List.mem_cons_self ..))
  refine ⟨h2, fun u q => ?_⟩
  constructor
  · intro hm
    obtain ⟨y, hy, e1, e2⟩ := (h.2 u q).1 (hp.mem_iff.2 (List.mem_cons_of_mem _ hm))
    refine ⟨y, hy, e1, e2, fun e => ?_⟩
    subst e
    obtain ⟨x, hx, e3, _⟩ := ht
    rw [hx] at hy
    obtain rfl := Option.some.inj hy
    rw [e1, ← e3] at hm
    exact h1 hm
  · rintro ⟨y, hy, e1, e2, e3⟩
    rcases List.mem_cons.1 (hp.mem_iff.1 ((h.2 u q).2 ⟨y, hy, e1, e2⟩)) with h4 | h4
    · exact absurd (Prod.mk.inj h4).2 e3
    · exact h4
set_option maxHeartbeats 8000000 in
set_option maxRecDepth 100000 in
theorem cFinish {W0 W : World} {p : Rv} {l : List En} {had st : List Int} {bh : Int → List Int} {tu : List Tn} {tl : List C7} (hF : Fin W0 W p l had st bh tu tl) (hl : l.length ≤ 1000) (hs : ∀ y ∈ l, y.short 100) :
    Calls Try.prog 25 #[.pointer (some ⟨p.R, 0, none⟩)] W fun e W' => e = .returned (.tuple #[]) ∧ ∃ p' st' tl', p'.R = p.R ∧ Fin W0 W' p' l had st' bh [] tl' := by
  obtain ⟨PR, hPR⟩ : ∃ z, z = p.R := ⟨_, rfl⟩
  have HPR := hid hPR
  have HF := hid hF
  have HL := hid hl
  have HS := hid hs
  rw [← hPR]
  have as1 := as_turn
  have fl1 := fld_turn
  clear hF hs hPR
  go_enter Try.func25, Try.ntmps25
  go_wp2_with fail
  go_loopw [] (fun wr => ∃ (q : Rv) (su : List Int) (tv : List Tn) (tl : List C7), Hid (q.R = PR) ∧ Hid (Fin W0 wr q l had su bh tv tl)) (fun w => l.length - toldLen PR w)
  case atStart => exact ⟨p, st, tu, tl, hid HPR.out.symm, HF⟩
  case round =>
    obtain ⟨q, su, tv, tl, HQR, HQ⟩ := hrel
    obtain ⟨ga, gc, gn, htv, hgn⟩ := HQ.out.rn.tu.asSlice
    have s5 : wr.cell? ⟨PR, 5, none⟩ = some (.slice ga gn gc) := by rw [← HQR.out, ← htv]; exact HQ.out.rn.cell rfl
    rcases Nat.eq_zero_or_pos gn with h0 | h0
    · subst h0
      have HT0 : Hid (tv = []) := hid (List.length_eq_zero_iff.1 hgn.symm)
      clear hgn htv
      go_wp2_with fail
      go_end0
      exact ⟨rfl, q, su, tl, HQR.out, by have := HQ.out; rw [HT0.out] at this; exact this⟩
    · obtain ⟨n, hn⟩ : ∃ n, gn = n + 1 := ⟨gn - 1, by omega⟩
      have h0i : (0 : Int) < gn := by omega
      obtain ⟨i, x, hat, hx, hr, hnx⟩ := least (n := n) HQ.out.tu HQ.out.hp (by omega)
      have hlen : n ≤ 900000 := by have := HQ.out.tu.len; have := HL.out; omega
      have hP := cHPop HQ.out.rn.hp (n := n) (by have := HQ.out.hp; rw [← hgn, hn] at this; exact this) (by omega) hlen HQ.out.rn.sd.bel.size
      rw [hat, HQR.out] at hP
      have HX := hid hx
      have HRR := hid hr
      have HNX := hid hnx
      have HAT := hid hat
      obtain ⟨xt, hxt⟩ : ∃ z, z = x.e.vt := ⟨_, rfl⟩
      rw [← hxt] at hP
      have HXT := hid hxt
      have hP2 : Calls Try.prog 32 #[.iface 83 (.pointer (some ⟨PR, 5, none⟩))] wr fun e w' => e = .returned (.iface 81 (.agg #[.int .i64 xt, .int .i64 (i : Int)])) ∧ ∃ tv' l', tv.Perm ((xt, i) :: l') ∧ HeapTo l' l'.length ∧ HpAt w' W0.heap.size PR ((rnC q).setIfInBounds 5 tv') tv' l' ∧ Tch (HpS PR q.tv) wr w' := hP
      have HPP := hid hP2
      have HDL : Hid (∀ (w1 : World) (tv1 : Value) (tu1 : List Tn), Rn W0 w1 { q with tv := tv1 } l had su bh tu1 tl → HeapTo tu1 tu1.length → tv.Perm ((xt, i) :: tu1) → Calls Try.prog 31 #[.pointer (some ⟨PR, 0, none⟩), .int .i64 (i : Int)] w1 fun e W' => e = .returned (.tuple #[]) ∧ ∃ p' st' tu', Rn W0 W' p' l had st' bh tu' (tl ++ [x.e.c]) ∧ p'.R = PR ∧ p'.ng = q.ng ∧ StG l (cntAt l had ((had ++ idsL tl) ++ [x.id])) st' ∧ HeapTo tu' tu'.length ∧ TuG l (fun u y => readyB l ((had ++ idsL tl) ++ [x.id]) u y = true) tu') := hid (fun w1 tv1 tu1 h1 h2 h3 => by
        have := cDeliver h1 HL.out HS.out HRR.out (Rdy.of HX.out HRR.out HQ.out.tol) HQ.out.st HQ.out.bh h2 HQ.out.ng (by have := HQ.out.len; have := HL.out; omega) (HQ.out.tu.pop h3)
        have e : ({ q with tv := tv1 } : Rv).R = PR := HQR.out
        rw [e] at this
        exact this)
      clear hx hr hnx hat hxt hP hP2 hgn htv hn hlen
      go_wp2_with (first
        | (go_at_call 32; refine HPP.out.mono ?_; rintro e w1 ⟨rfl, tv1, tu1, hp1, hh1, hH1, ht1⟩; have HP1 := hid hp1; have HH1 := hid hh1; have HR1 : Hid (Rn W0 w1 { q with tv := tv1 } l had su bh tu1 tl) := hid (HQ.out.rn.turned (by rw [HQR.out]; exact hH1) (by rw [HQR.out]; exact ht1)); clear hp1 hh1 hH1 ht1)
        | (go_at_call 31; refine (HDL.out w1 tv1 tu1 HR1.out HH1.out HP1.out).mono ?_; rintro e w2 ⟨rfl, p2, st2, tu2, h1, h2, h3, h4, h5, h6⟩; have K1 := hid h1; have K2 := hid h2; have K3 := hid h3; have K4 := hid h4; have K5 := hid h5; have K6 := hid h6; clear h1 h2 h3 h4 h5 h6)
        | fail)
      have HID : Hid (had ++ idsL (tl ++ [x.e.c]) = (had ++ idsL tl) ++ [x.id]) := hid (by rw [ids_snoc, ← List.append_assoc])
      go_roundw
      case rel => exact ⟨p2, st2, tu2, tl ++ [x.e.c], K2, hid ⟨K1.out, by rw [HID.out]; exact K4.out, HQ.out.bh, K5.out, by rw [K3.out]; exact HQ.out.ng, by rw [HID.out]; exact K6.out, by rw [HID.out]; exact told_next HQ.out.tol HX.out HRR.out, by rw [HID.out]; exact all_step HX.out HNX.out.symm HQ.out.all, by rw [HID.out, List.length_append, List.length_singleton]; exact all_left HX.out HNX.out.symm HQ.out.len⟩⟩
      case measure =>
        have e1 := toldLen_eq HQ.out.rn
        have e2 := toldLen_eq K1.out
        rw [HQR.out] at e1
        rw [K2.out] at e2
        rw [e1, e2, List.length_append, List.length_singleton]
        have := all_lt HNX.out.symm HQ.out.len
        omega
end Go.Proofs.Ytmggggijamligaa
