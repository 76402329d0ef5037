import Derived.Test.YtmggggijamligaaG12
namespace Go.Proofs.Ytmggggijamligaa
set_option linter.unusedVariables false
open Go.RowKit
open Go.Lib (hid)
theorem wp_append_i1 {w : World} {o : Oper} {a : Act} {K : Act → World → Prop} {Q : Exit → Act → World → Prop} (s x : Operand) (ho : o.op = .call { callee := .builtin .append, args := #[s, x], argTypes := #[23, 23] })
    (B : Nat) (v : Value) (zs : List Int) (hs : a.eval s = v) (hown : w.ownsInts B 3 .i64 v zs) (g : Nat) (d : Int) (hx : a.eval x = .slice (some ⟨g, 0, none⟩) 1 1) (h2 : w.heap[g]? = some (.cells #[.int .i64 d] 3 (0, 0))) (hd : wfI d) (hlen : zs.length ≤ 1000000) (hbase : B ≤ w.heap.size)
    (h : ∀ v' w', w'.ownsInts B 3 .i64 v' (zs ++ [d]) → w.grownBy w' v.ownBlock → (v'.ownBlock = v.ownBlock ∨ v'.ownBlock = some w.heap.size) → K (a.put o.dst v') w') : o.wp Try.prog a w K Q := by
  obtain ⟨i0, hi, hz0, hz1, hz2⟩ := info_parts Try.infoI
  obtain ⟨v', w', hr, ho', hg, _, hat⟩ := run_append_own_at (P := Try.prog) w B 23 o.type 3 i0 _ 1 8 Try.underlying23 hi hz0 hz1 hz2 rfl (by decide) v zs.length (zs.map (Value.int .i64)) hown.1 ⟨g, 0, none⟩ 1 1 [.int .i64 d] rfl (fun j u hu => by rw [addr_add, cellAt' h2 j, ← Array.getElem?_toList]; exact hu) (fun u hu => by simp at hu; subst hu; rfl) (by unfold maxLen; omega) (by omega) hbase
  unfold Oper.wp execOp
  simp only [ho, resolve, invoke, builtin, Sem.run_bind, Sem.run_pure, Result.andThen_ok, List.map_toArray, List.map_cons, List.map_nil, hs, hx, hr]
  exact h v' w' (hown.appended ho' hd) hg hat
theorem wp_mapUpdate_run {P : Program} {w w2 : World} {o : Oper} {a : Act} {K : Act → World → Prop} {Q : Exit → Act → World → Prop} {m x v : Operand} {t : TypeId} {b : Nat} {key v' : Value} (ho : o.op = .mapUpdate t m x v) (hm : a.eval m = .map (some b)) (hx : a.eval x = key) (hv : a.eval v = v') (hrun : (Instr.mapUpdate t (.map (some b)) key v').run P w = .ok () w2) (h : K (a.put o.dst undef) w2) : o.wp P a w K Q := by
  unfold Oper.wp
  simp [execOp, ho, hm, hx, hv, hrun, Result.andThen]
  exact h
theorem Rn.svs {W0 W : World} {p : Rv} {l : List En} {had st : List Int} {bh : Int → List Int} {tu : List Tn} {tl : List C7} (h : Rn W0 W p l had st bh tu tl) (h0 : 0 < st.length) : ∃ g cap, p.sv = .slice (some ⟨g, 0, none⟩) st.length cap ∧ g < W.heap.size ∧ (∀ j x, st[j]? = some x → W.cell? ⟨g, j, none⟩ = some (.int .i64 x)) ∧ ∀ j, W.frozen? ⟨g, j, none⟩ = false := by
  have hs := h.sd.st
  have hl := hs.lt
  have hcl := fun g (hg : p.sv.ownBlock = some g) => World.ownsRow.cells hs hg
  rcases hs.2 with ⟨_, e⟩ | ⟨g, cap, cur, e, _, hg, _⟩
  · omega
  · refine ⟨g, cap, e, (hl g (by rw [e]; rfl)).2, fun j x hx => ?_, fun j => frozen_of_row W g j cur _ hg⟩
    have := hcl g (by rw [e]; rfl) j (.int .i64 x) (by unfold nums; rw [List.getElem?_map, hx]; rfl)
    rw [addr_add] at this
    exact this
theorem rnRange {W0 W : World} {p : Rv} {l : List En} {had st : List Int} {bh : Int → List Int} {tu : List Tn} {tl : List C7} (h : Rn W0 W p l had st bh tu tl) : W.rangeAt p.R 0 [p.lv, .map (some p.F), .map (some p.H)] := fun j v hv => by
  rw [Nat.zero_add]
  rcases j with _ | _ | _ | j
  · simp at hv; subst hv; exact h.cell rfl
  · simp at hv; subst hv; exact h.cell rfl
  · simp at hv; subst hv; exact h.cell rfl
  · simp at hv
set_option maxHeartbeats 8000000 in
set_option maxRecDepth 100000 in
theorem cEnter {W0 W : World} {p : Rv} {l : List En} {had st : List Int} {bh : Int → List Int} {tu : List Tn} {tl : List C7} (h : Rn W0 W p l had st bh tu tl) (hl : l.length ≤ 1000) (hs : ∀ y ∈ l, y.short 100) {i : Nat} {x : En} (hx : l[i]? = some x) (hh : HeapTo tu tu.length) (htl : tu.length ≤ 900000) (hng : p.ng ≤ 200000)
    {F F' : Nat → Nat} {G G' : Int → Nat → Nat} (hF : StG l F st) (hG : BhG l G bh) (hF0 : F i = 0) (hG0 : ∀ id, G id i = 0) (hF' : ∀ j, F' j = if j = i then cntP l had x else F j) (hG' : ∀ id j, G' id j = if j = i then cntI l had x id else G id j) {z : List Tn} (hz : z = if cntP l had x = 0 then (x.e.vt, i) :: tu else tu) :
    Calls Try.prog 30 #[.pointer (some ⟨p.R, 0, none⟩), .int .i64 i] W fun e W' => e = .returned (.tuple #[]) ∧ ∃ p' st' bh' tu', Rn W0 W' p' l had st' bh' tu' tl ∧ p'.R = p.R ∧ p'.ng ≤ p.ng + 100 ∧ StG l F' st' ∧ BhG l G' bh' ∧ HeapTo tu' tu'.length ∧ tu'.Perm z := by
  obtain ⟨b, o, cap, hlv, hbw, hrg⟩ := h.sd.sl.entry hx
  have hil := (List.getElem?_eq_some_iff.1 hx).1
  have HXM := hid (List.mem_of_getElem? hx)
  have HSX : Hid (x.v.length ≤ 100) := hid (hs x HXM.out).2.2
  have HWF : Hid (∀ c ∈ x.v, wfI c.i) := hid (h.sd.wf.1 x HXM.out).2
  obtain ⟨pb, po, pcap, pa, hpv, hpa, hpc⟩ := (h.sd.at' x HXM.out).2.2.row
  obtain ⟨m, hm⟩ : ∃ m, m = l.length := ⟨_, rfl⟩
  have HLL : Hid (l.length ≤ 1000) := hid hl
  rw [← hm] at hlv hil hl
  obtain ⟨n, hn⟩ : ∃ n, n = x.v.length := ⟨_, rfl⟩
  rw [← hn] at hpv hpa
  have hn1 : n ≤ 100 := by rw [hn]; exact HSX.out
  have HN := hid hn
  have HM := hid hm
  have HPC := hid hpc
  obtain ⟨t, ht⟩ : ∃ z, z = x.e.vt := ⟨_, rfl⟩
  have HT := hid ht
  have HX := hid hx
  have HLV := hid hlv
  have G17 : Hid (∀ W', Below W0.heap.size W0 W' → W'.cell? ⟨b, o + i * 19 + 17, none⟩ = some (.int .i64 t)) := hid (fun W' hW' => (hW'.cell hbw).trans (by rw [ht]; exact hrg 17 _ rfl))
  have G18 : Hid (∀ W', Below W0.heap.size W0 W' → W'.cell? ⟨b, o + i * 19 + 18, none⟩ = some (.slice pa n pcap)) := hid (fun W' hW' => (hW'.cell hbw).trans (by rw [← hpv]; exact hrg 18 _ rfl))
  have HR := hid h
  have HHT := hid hh
  have HTL := hid htl
  have HNG := hid hng
  have HF := hid hF
  have HG := hid hG
  have HF0 := hid hF0
  have HG0 := hid hG0
  have HFF := hid hF'
  have HGG := hid hG'
  have HZ := hid hz
  obtain ⟨R, hR⟩ : ∃ R, R = p.R := ⟨_, rfl⟩
  have HRR := hid hR
  have hji : ((i : Int) < m) := by omega
  have c0 : W.cell? ⟨R, 0, none⟩ = some (.slice (some ⟨b, o, none⟩) m cap) := by rw [hR, ← hlv]; exact h.cell rfl
  have c18 := G18.out W h.sd.bel
  rw [← hR]
  clear h hs hx hh htl hng hF hG hF0 hG0 hF' hG' hz hR hm hn hpc ht hlv hrg hpv
  go_enter Try.func30, Try.ntmps30
  go_wp2_with fail
  go_loopw [17] (fun s17 wr => ∃ (k : Nat) (q : Rv) (su : List Int) (bu : Int → List Int), k ≤ n ∧ s17 = .int .i64 k ∧ Hid (Rn W0 wr q l had su bu tu tl) ∧ Hid (q.R = R ∧ q.lv = p.lv ∧ q.ng ≤ p.ng + k) ∧ Hid (StG l (fun j => if j = i then cntK l had x k else F j) su) ∧ Hid (BhG l (fun id j => if j = i then cntJ l had x k id else G id j) bu)) (fun s17 _ => n - (RowKit.intOf s17).toNat)
  case atStart => exact ⟨0, p, st, bh, Nat.zero_le _, rfl, HR, hid ⟨HRR.out.symm, rfl, by omega⟩, hid (HF.out.same fun j _ => by
      by_cases e : j = i
      · subst e; simp [cntK, HF0.out]
      · simp [e]), hid (HG.out.same fun id j _ => by
      by_cases e : j = i
      · subst e; simp [cntJ, HG0.out]
      · simp [e])⟩
  case round =>
    clear c0 c18
    obtain ⟨k, q, su, bu, hk, rfl, HQ, HQR, HSU, HBU⟩ := hrel
    by_cases hlt : k < n
    · have hlti : ((k : Int) < n) := by omega
      obtain ⟨rfl, hpb⟩ := hpa (by omega)
      obtain ⟨c, hc⟩ : ∃ c, x.v[k]? = some c := ⟨x.v[k]'(by rw [← HN.out]; exact hlt), List.getElem?_eq_getElem (by rw [← HN.out]; exact hlt)⟩
      have HC := hid hc
      obtain ⟨d0', d1, d2, d3, d4, d5, d6⟩ : CmdR wr pb (po + k * 7) c := by
        have := fun j u hu => (HQ.out.sd.bel.cell hpb).trans (HPC.out k c hc j u hu)
        exact ⟨this 0 _ rfl, this 1 _ rfl, this 2 _ rfl, this 3 _ rfl, this 4 _ rfl, this 5 _ rfl, this 6 _ rfl⟩
      clear hc
      go_upto_region 3 with fail
      have HBA : Hid (Below wr.heap.size wr (wr.alloc (.cells #[.int .i64 c.i, .int .i64 c.k, .int .i64 c.s, .int .i64 c.t, .int .i64 c.d, .int .i64 c.p, .int .i64 c.q] 31))) := hid ((Below.refl _ wr).alloc (Nat.le_refl _) _)
      have HNA : Hid ((wr.alloc (.cells #[.int .i64 c.i, .int .i64 c.k, .int .i64 c.s, .int .i64 c.t, .int .i64 c.d, .int .i64 c.p, .int .i64 c.q] 31)).heap[wr.heap.size]? = some (.cells #[.int .i64 c.i, .int .i64 c.k, .int .i64 c.s, .int .i64 c.t, .int .i64 c.d, .int .i64 c.p, .int .i64 c.q] 31 (0, 0))) := hid (heap_alloc_new wr _)
      generalize wr.alloc (.cells #[.int .i64 c.i, .int .i64 c.k, .int .i64 c.s, .int .i64 c.t, .int .i64 c.d, .int .i64 c.p, .int .i64 c.q] 31) = wa at HBA HNA ⊢
      have hcw : wr.heap.size < wa.heap.size := (Array.getElem?_eq_some_iff.1 HNA.out).1
      have HRA : Hid (∀ W2, Below wa.heap.size wa W2 → Rn W0 W2 q l had su bu tu tl) := hid (fun W2 hW2 => (HQ.out.on HBA.out).on hW2)
      obtain ⟨ci, hci⟩ : ∃ z, z = c.i := ⟨_, rfl⟩
      have HCI := hid hci
      have CI : Hid (∀ W2, Below wa.heap.size wa W2 → W2.cell? ⟨wr.heap.size, 0, none⟩ = some (.int .i64 ci)) := hid (fun W2 hW2 => by rw [hci]; exact (hW2.cell hcw).trans ((cellAt' HNA.out 0).trans rfl))
      obtain ⟨s, hs⟩ : ∃ s, s = !depB l had t c := ⟨_, rfl⟩
      have HS := hid hs
      have CV : Hid (∀ W2, Below wa.heap.size wa W2 → W2.rangeAt R 0 [.slice (some ⟨b, o, none⟩) m cap, .map (some q.F), .map (some q.H)]) := hid (fun W2 hW2 => by have := rnRange (HRA.out W2 hW2); rw [HQR.out.1, HQR.out.2.1, HLV.out] at this; exact this)
      have C0 : Hid (∀ W2, Below wa.heap.size wa W2 → W2.cell? ⟨R, 0, none⟩ = some (.slice (some ⟨b, o, none⟩) m cap)) := hid (fun W2 hW2 => by have := CV.out W2 hW2 0 _ rfl; exact this)
      have C17 : Hid (∀ W2, Below wa.heap.size wa W2 → W2.cell? ⟨b, o + i * 19 + 17, none⟩ = some (.int .i64 t)) := hid (fun W2 hW2 => G17.out W2 (HRA.out W2 hW2).sd.bel)
      clear hci hs d0' d1 d2 d3 d4 d5 d6
      refine d0 (Below wa.heap.size wa) 17 (Array.replicate 17 false) ?_
      rw [show Array.replicate 17 false = #[false, false, false, false, false, false, false, false, false, false, false, false, false, false, false, false, false] from rfl]
      have HS0 : Hid (Below wa.heap.size wa wa.drew) := hid (belowDrew (Below.refl _ wa))
      generalize wa.drew = wd at HS0 ⊢
      refine dt 0 HS0.out ?_
      refine dt 1 HS0.out ?_
      refine dt 2 HS0.out ?_
      refine dl 3 [.slice (some ⟨b, o, none⟩) m cap, .map (some q.F), .map (some q.H)] R 0 (fun W2 hW2 => CV.out W2 hW2) Try.underlying63 HS0.out ?_
      refine dt 4 HS0.out ?_
      refine dt 5 HS0.out ?_ (hv := by (intro W2 hW2; have c := CI.out W2 hW2; go_simp; try with_reducible rfl))
      refine dt 6 HS0.out ?_
      refine dt 7 HS0.out ?_
      refine dt 8 HS0.out ?_
      refine dt 9 HS0.out ?_
      refine dt 10 HS0.out ?_ (hv := by (intro W2 hW2; have c := C0.out W2 hW2; go_simp; try with_reducible rfl))
      refine dt 11 HS0.out ?_
      refine dt 12 HS0.out ?_
      refine dt 13 HS0.out ?_
      refine dt 14 HS0.out ?_
      refine dt 15 HS0.out ?_ (hv := by (intro W2 hW2; have c := C17.out W2 hW2; go_simp; try with_reducible rfl))
      refine dop 16 ?_
      intro K hK
      go_simp
      have hcall := cStopped (HRA.out wd HS0.out).sd.vw HLL.out (c := c) (id := ci) (t := t) HCI.out (by rw [HCI.out]; exact HWF.out c (List.mem_of_getElem? HC.out)) HS.out
      rw [HQR.out.2.1, HLV.out] at hcall
      refine hcall.mono ?_
      clear hcall
      rintro e w1 ⟨rfl, hB1⟩
      have HS1 : Hid (Below wa.heap.size wa w1) := hid (HS0.out.trans (hB1.mono HS0.out.size))
      clear hB1
      refine hK.out _ _ HS1.out ?_
      clear hK K
      refine wpAnyH_done (by kernel_rfl) ?_ _
      rcases s with _ | _
      · have HD : Hid (depB l had x.e.vt c = true) := hid (by have := HS.out; rw [HT.out] at this; simpa using this.symm)
        go_wp2_with fail
        go_roundw
        case rel => exact ⟨k + 1, q, su, bu, by omega, by go_num, hid (HRA.out w1 HS1.out), hid ⟨HQR.out.1, HQR.out.2.1, by have := HQR.out.2.2; omega⟩, hid (HSU.out.same fun j _ => by rw [cntK_no HC.out HD.out]), hid (HBU.out.same fun id j _ => by rw [cntJ_no HC.out HD.out])⟩
        case measure => first | omega | (simp [RowKit.intOf]; omega)
      · have HD : Hid (depB l had x.e.vt c = false) := hid (by have := HS.out; rw [HT.out] at this; simpa using this.symm)
        have HQ1 : Hid (Rn W0 w1 q l had su bu tu tl) := hid (HRA.out w1 HS1.out)
        have hsl : su.length = m := by rw [HSU.out.1, HM.out]
        obtain ⟨g, gcap, hsv, hgw, hsc, hsf⟩ := HQ1.out.svs (by omega)
        rw [hsl] at hsv
        obtain ⟨cK, hcK⟩ : ∃ z, z = cntK l had x k := ⟨_, rfl⟩
        have HCK := hid hcK
        have hck1 : cK ≤ k := by rw [hcK]; exact cntK_le _ _ _ _
        have s3 : w1.cell? ⟨R, 3, none⟩ = some (.slice (some ⟨g, 0, none⟩) m gcap) := by rw [← HQR.out.1, ← hsv]; exact HQ1.out.cell rfl
        have sc : w1.cell? ⟨g, i, none⟩ = some (.int .i64 (cK : Int)) := hsc i _ (by have := HSU.out.2 i (by rw [← HM.out]; exact hil); simp only [if_true] at this; rw [this, ← hcK])
        have sf := hsf i
        have HSV := hid hsv
        have hbx : w1.heap[wr.heap.size]? = some (.cells #[.int .i64 c.i, .int .i64 c.k, .int .i64 c.s, .int .i64 c.t, .int .i64 c.d, .int .i64 c.p, .int .i64 c.q] 31 (0, 0)) := obOn HNA.out HS1.out hcw
        have hgx : g ≠ wr.heap.size := fun e => by
          obtain ⟨cur, hcu⟩ := ownI_int HQ1.out.sd.st (k := g) (by rw [hsv]; rfl)
          rw [e] at hcu
          exact absurd (tyNe hbx hcu) (by decide)
        have HBX := hid hbx
        have HGX := hid hgx
        clear hsc hsf hsv hcK hbx hgx
        go_upto_region 5 with fail
        have HQ2 : Hid (Rn W0 (w1.setCell ⟨g, i, none⟩ (.int .i64 ((cK : Int) + 1))) q l had (su.set i ((cK : Int) + 1)) bu tu tl) := hid (HQ1.out.stored HSV.out hsl.symm i _)
        have HB2 : Hid ((w1.setCell ⟨g, i, none⟩ (.int .i64 ((cK : Int) + 1))).heap[wr.heap.size]? = some (.cells #[.int .i64 c.i, .int .i64 c.k, .int .i64 c.s, .int .i64 c.t, .int .i64 c.d, .int .i64 c.p, .int .i64 c.q] 31 (0, 0))) := hid (((grownSet w1 ⟨g, i, none⟩ _).block wr.heap.size (Array.getElem?_eq_some_iff.1 HBX.out).1 (fun e => HGX.out (Option.some.inj e).symm)).trans HBX.out)
        generalize w1.setCell ⟨g, i, none⟩ (.int .i64 ((cK : Int) + 1)) = W2 at HQ2 HB2 ⊢
        clear s3 sc sf
        have HQD : Hid (Rn W0 W2.drew q l had (su.set i ((cK : Int) + 1)) bu tu tl) := hid (HQ2.out.on (belowDrew (Below.refl _ _)))
        have HBD : Hid (W2.drew.heap[wr.heap.size]? = some (.cells #[.int .i64 c.i, .int .i64 c.k, .int .i64 c.s, .int .i64 c.t, .int .i64 c.d, .int .i64 c.p, .int .i64 c.q] 31 (0, 0))) := hid HB2.out
        obtain ⟨v, D, hlk, hoi, hzl, hsy, him, hbk⟩ := HQD.out.sd.gr.look (i := ci) (by have := HQR.out.2.2; have := HNG.out; unfold maxLen; omega) (by rw [HCI.out]; exact HWF.out c (List.mem_of_getElem? HC.out))
        have LK := hid hlk
        have HOI := hid hoi
        have HZL := hid hzl
        have HSY := hid hsy
        have HIM := hid him
        have HBK := hid hbk
        clear hlk hoi hzl hsy him hbk
        refine rg_start (g := 16) (S0 := fun W' => W'.cell? ⟨R, 4, none⟩ = some (.map (some q.M)) ∧ W'.cell? ⟨wr.heap.size, 0, none⟩ = some (.int .i64 ci)) (S1 := fun W' => W'.heap[q.M]? = W2.drew.heap[q.M]?) (n := 17) (listed := #[false, false, false, false, false, false, false, false, false, false, false, false, false, false, false, false, false]) (by kernel_rfl) (by rfl) (by rfl) ?_
        generalize W2.drew = wd at HQD HBD LK HOI HBK ⊢
        have hS0 : ∀ W' z, Rn W0 W' z l had (su.set i ((cK : Int) + 1)) bu tu tl → z.R = q.R → z.M = q.M → W'.heap[wr.heap.size]? = wd.heap[wr.heap.size]? → W'.cell? ⟨R, 4, none⟩ = some (.map (some q.M)) ∧ W'.cell? ⟨wr.heap.size, 0, none⟩ = some (.int .i64 ci) := fun W' z hz h1 h2 h3 => ⟨by rw [← HQR.out.1, ← h1, ← h2]; exact hz.cell rfl, by rw [HCI.out]; exact (cellAt' (h3.trans HBD.out) 0).trans rfl⟩
        have HS0x := hid hS0
        clear hS0
        have HG0' : Hid (∀ L, GS 16 (fun W' => W'.cell? ⟨R, 4, none⟩ = some (.map (some q.M)) ∧ W'.cell? ⟨wr.heap.size, 0, none⟩ = some (.int .i64 ci)) (fun W' => W'.heap[q.M]? = wd.heap[q.M]?) L wd) := hid (fun L => ⟨HS0x.out wd q HQD.out rfl rfl rfl, .inr rfl⟩)
        refine gt 0 (HG0'.out _) ?_
        refine gt 1 (HG0'.out _) ?_
        refine gt 2 (HG0'.out _) ?_
        refine gt 3 (HG0'.out _) ?_ (hv := by (intro W2 hW2; have c := hW2.1; go_simp; try with_reducible rfl))
        refine gt 4 (HG0'.out _) ?_
        refine gt 5 (HG0'.out _) ?_ (hv := by (intro W2 hW2; have c := hW2.2; go_simp; try with_reducible rfl))
        refine gt 6 (HG0'.out _) ?_
        refine gt 7 (HG0'.out _) ?_
        refine gt 8 (HG0'.out _) ?_
        refine gt 9 (HG0'.out _) ?_ (hv := by (intro W2 hW2; have c := hW2.1; go_simp; try with_reducible rfl))
        refine gt 10 (HG0'.out _) ?_
        refine gt 11 (HG0'.out _) ?_ (hv := by (intro W2 hW2; have c := hW2.2; go_simp; try with_reducible rfl))
        refine gt1 12 (HG0'.out _) ?_ (hv := by (intro W2 hW2; have c := LK.out W2 hW2.2; go_simp; try with_reducible rfl))
        refine gt 13 (HG0'.out _) ?_
        refine go1 14 ?_
        intro K hK
        go_simp
        have HBA2 : Hid (Below wd.heap.size wd (wd.alloc (.cells #[.int .i64 (i : Int)] 3))) := hid ((Below.refl _ wd).alloc (Nat.le_refl _) _)
        have HNA2 : Hid ((wd.alloc (.cells #[.int .i64 (i : Int)] 3)).heap[wd.heap.size]? = some (.cells #[.int .i64 (i : Int)] 3 (0, 0))) := hid (heap_alloc_new wd _)
        generalize wd.alloc (.cells #[.int .i64 (i : Int)] 3) = wb at HBA2 HNA2 ⊢
        have hML : q.M < wd.heap.size := HQD.out.sd.gr.lt
        have HMB : Hid (wb.heap[q.M]? = wd.heap[q.M]?) := hid (HBA2.out.block _ hML)
        have HWB : Hid (wb.heap[wr.heap.size]? = wd.heap[wr.heap.size]?) := hid (HBA2.out.block _ (Array.getElem?_eq_some_iff.1 HBD.out).1)
        have HQB : Hid (Rn W0 wb q l had (su.set i ((cK : Int) + 1)) bu tu tl) := hid (HQD.out.on HBA2.out)
        refine hK.out _ _ ⟨HS0x.out wb q HQB.out rfl rfl HWB.out, .inr HMB.out⟩ ?_
        clear hK K
        refine go1 15 ?_
        intro K hK
        refine wp_append_i1 _ _ rfl q.Bg v (bu ci) rfl (ints_tch HOI.out (Tch.ofBelow (S := fun _ => False) HBA2.out) (fun _ _ h => h)) wd.heap.size (i : Int) rfl HNA2.out (wfI_of (by omega)) (by have := HZL.out; have := HQR.out.2.2; have := HNG.out; omega) (Nat.le_trans HQD.out.sd.bg HBA2.out.size) ?_
        intro v2 wx hv2 hgx hat
        have HV2 := hid hv2
        have HGB : Hid (wd.grownBy wx v.ownBlock) := hid (grownTrans (grownBelow HBA2.out _) hgx)
        have HAT : Hid (v2.ownBlock = v.ownBlock ∨ ∃ g, v2.ownBlock = some g ∧ wd.heap.size ≤ g) := hid (hat.imp id fun e => ⟨_, e, HBA2.out.size⟩)
        have HNEv : Hid (∀ y, v.ownBlock = some y → ∃ cur, wd.heap[y]? = some (.cells cur 3 (0, 0))) := hid (fun y hy => ints_int HOI.out hy)
        have HMX : Hid (wx.heap[q.M]? = wd.heap[q.M]?) := hid (HGB.out.block q.M hML (fun e => by
          obtain ⟨cur, hc⟩ := HNEv.out _ e.symm
          obtain ⟨me, mc, hmb⟩ := HQD.out.sd.gr.blk
          exact cellsNot hmb hc))
        have HRX : Hid (wx.heap[R]? = wd.heap[R]?) := hid (HGB.out.block R (by rw [← HQR.out.1]; exact HQD.out.R_lt) (fun e => by
          obtain ⟨cur, hc⟩ := HNEv.out _ e.symm
          have := HQD.out.blk
          rw [HQR.out.1] at this
          exact absurd (tyNe this hc) (by decide)))
        have HWX : Hid (wx.heap[wr.heap.size]? = wd.heap[wr.heap.size]?) := hid (HGB.out.block _ (Array.getElem?_eq_some_iff.1 HBD.out).1 (fun e => by
          obtain ⟨cur, hc⟩ := HNEv.out _ e.symm
          exact absurd (tyNe HBD.out hc) (by decide)))
        have HRDc : Hid (wd.heap[R]? = some (.cells (rnC q) 73 (0, 0))) := hid (by rw [← HQR.out.1]; exact HQD.out.blk)
        have HSX0 : Hid (∀ W' : World, W'.heap[R]? = wd.heap[R]? → W'.heap[wr.heap.size]? = wd.heap[wr.heap.size]? → W'.cell? ⟨R, 4, none⟩ = some (.map (some q.M)) ∧ W'.cell? ⟨wr.heap.size, 0, none⟩ = some (.int .i64 ci)) := hid (fun W' h1 h2 => ⟨(cellAt' (h1.trans HRDc.out) 4).trans rfl, by rw [HCI.out]; exact (cellAt' (h2.trans HBD.out) 0).trans rfl⟩)
        clear hv2 hgx hat
        refine hK.out _ _ ⟨HSX0.out wx HRX.out HWX.out, .inr HMX.out⟩ ?_
        clear hK K
        have HZ2 : Hid ((bu ci ++ [(i : Int)]).length ≤ q.ng + 1) := hid (by rw [List.length_append, List.length_singleton]; have := HZL.out; omega)
        obtain ⟨w3, hrun, hgr3, hg3⟩ := HBK.out wx v2 (bu ci ++ [(i : Int)]) HGB.out HV2.out HZ2.out HAT.out
        have HRUN := hid hrun
        have HG3 := hid hg3
        have HGR : Hid (Gr w3 q.M q.Bg (q.ng + 1) (fun id => if id = ci then bu ci ++ [(i : Int)] else bu id)) := hid ⟨_, hgr3, HSY.out.put HIM.out ci (HV2.out.datum), HIM.out.put _ _⟩
        have HQ3 : Hid (Rn W0 w3 { q with ng := q.ng + 1 } l had (su.set i ((cK : Int) + 1)) (fun id => if id = ci then bu ci ++ [(i : Int)] else bu id) tu tl) := hid (HQD.out.grouped HOI.out HGB.out hg3 HGR.out)
        have HWY : Hid (w3.heap[wr.heap.size]? = wd.heap[wr.heap.size]?) := hid ((hg3.block _ (Nat.lt_of_lt_of_le (Array.getElem?_eq_some_iff.1 HBD.out).1 HGB.out.size) (fun e => by
          obtain ⟨me, mc, hmb⟩ := HQD.out.sd.gr.blk
          rw [← Option.some.inj e] at hmb
          exact cellsNot hmb HBD.out)).trans HWX.out)
        have HRY : Hid (w3.heap[R]? = wd.heap[R]?) := hid ((hg3.block _ (Nat.lt_of_lt_of_le (Array.getElem?_eq_some_iff.1 HRDc.out).1 HGB.out.size) (fun e => by
          obtain ⟨me, mc, hmb⟩ := HQD.out.sd.gr.blk
          rw [← Option.some.inj e] at hmb
          exact cellsNot hmb HRDc.out)).trans HRX.out)
        clear hrun hgr3 hg3
        refine go1 16 ?_
        intro K hK
        refine wp_mapUpdate_run (t := 69) (b := q.M) (key := .int .i64 ci) (v' := v2) rfl rfl rfl rfl HRUN.out ?_
        refine hK.out _ _ ⟨HSX0.out w3 HRY.out HWY.out, .inl rfl⟩ ?_
        clear hK K
        refine rg_done (by kernel_rfl) ?_ _
        go_wp2_with fail
        go_roundw
        case rel => exact ⟨k + 1, { q with ng := q.ng + 1 }, _, _, by omega, by go_num, HQ3, hid ⟨HQR.out.1, HQR.out.2.1, by have := HQR.out.2.2; show q.ng + 1 ≤ p.ng + (k + 1); omega⟩, hid (by
            have := HSU.out.set (F' := fun j => if j = i then cntK l had x (k + 1) else F j) (i := i) (cK + 1) (by simp only [if_true]; rw [cntK_yes HC.out HD.out, ← HCK.out]) (fun j hj => by simp only [if_neg hj])
            exact this), hid (by
            have := HBU.out.put (G' := fun id j => if j = i then cntJ l had x (k + 1) id else G id j) (i := i) (by rw [← HM.out]; exact hil) c.i (by simp only [if_true]; exact cntJ_yes HC.out HD.out) (fun id j hj => by
              by_cases e : j = i
              · simp only [if_pos e]
                rcases hj with hj | hj
                · exact cntJ_ne HC.out (fun e2 => hj e2.symm)
                · exact absurd e hj
              · simp only [if_neg e])
            rw [HCI.out]; exact this)⟩
        case measure => first | omega | (simp [RowKit.intOf]; omega)
    · have hlti : ¬ ((k : Int) < n) := by omega
      have hkn : k = n := by omega
      have hKP : cntK l had x k = cntP l had x := by rw [hkn, HN.out]; exact cntK_all _ _ _
      have HJP : Hid (∀ id, cntJ l had x k id = cntI l had x id) := hid (fun id => by rw [hkn, HN.out]; exact cntJ_all _ _ _ _)
      have hsl : su.length = m := by rw [HSU.out.1, HM.out]
      obtain ⟨g, gcap, hsv, hgw, hsc, hsf⟩ := HQ.out.svs (by omega)
      rw [hsl] at hsv
      obtain ⟨cK, hcK⟩ : ∃ z, z = cntP l had x := ⟨_, rfl⟩
      have HCK := hid hcK
      have HKP := hid hKP
      have s3 : wr.cell? ⟨R, 3, none⟩ = some (.slice (some ⟨g, 0, none⟩) m gcap) := by rw [← HQR.out.1, ← hsv]; exact HQ.out.cell rfl
      have sc : wr.cell? ⟨g, i, none⟩ = some (.int .i64 (cK : Int)) := hsc i _ (by have := HSU.out.2 i (by rw [← HM.out]; exact hil); simp only [if_true] at this; rw [this, hKP, ← hcK])
      have HE1 : Hid (StG l F' su) := hid (HSU.out.same fun j _ => by rw [HFF.out, ← HKP.out])
      have HE2 : Hid (BhG l G' bu) := hid (HBU.out.same fun id j _ => by rw [HGG.out, ← HJP.out])
      have HNG2 : Hid (q.ng ≤ p.ng + 100) := hid (by have := HQR.out.2.2; omega)
      clear hsc hsf hsv hcK hKP
      rcases Nat.eq_zero_or_pos cK with hz | hz
      · subst hz
        have hL := cLine HQ.out HLL.out HX.out HHT.out HTL.out
        rw [HQR.out.1] at hL
        go_wp2_with (first
          | (go_at_call 33; refine hL.mono ?_; clear hL; rintro e w1 ⟨rfl, tv2, tu2, hp2, hh2, hr2, _⟩; have HP2 := hid hp2; have HH2 := hid hh2; have HR2 := hid hr2; clear hp2 hh2 hr2)
          | fail)
        go_end0
        exact ⟨rfl, { q with tv := tv2 }, su, bu, tu2, by have := HR2.out; rw [← HQR.out.1] at this; exact this, HQR.out.1, HNG2.out, HE1.out, HE2.out, HH2.out, by rw [HZ.out, if_pos HCK.out.symm]; exact HP2.out⟩
      · have hzb : ((cK : Int) == 0) = false := by simp; omega
        go_wp2_with fail
        go_end0
        exact ⟨rfl, q, su, bu, tu, HQ.out, HQR.out.1, HNG2.out, HE1.out, HE2.out, HHT.out, by rw [HZ.out, if_neg (by rw [← HCK.out]; omega)]⟩
end Go.Proofs.Ytmggggijamligaa
