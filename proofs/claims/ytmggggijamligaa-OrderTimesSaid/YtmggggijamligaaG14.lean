import Derived.Test.YtmggggijamligaaZEnterZm
namespace Go.Proofs.Ytmggggijamligaa
set_option linter.unusedVariables false
open Go.RowKit
open Go.Lib (hid)
def cntAt (l : List En) (had h : List Int) (j : Nat) : Nat := match l[j]? with
  | some x => cntO l had h j x
  | none => 0
def behAt (l : List En) (had : List Int) (id : Int) (j : Nat) : Nat := match l[j]? with
  | some x => if waitB l had j x then cntI l had x id else 0
  | none => 0
theorem cntAt_some {l : List En} {had h : List Int} {j : Nat} {x : En} (hx : l[j]? = some x) : cntAt l had h j = cntO l had h j x := by unfold cntAt; rw [hx]
theorem behAt_some {l : List En} {had : List Int} {id : Int} {j : Nat} {x : En} (hx : l[j]? = some x) : behAt l had id j = if waitB l had j x then cntI l had x id else 0 := by unfold behAt; rw [hx]
def TuG (l : List En) (P : Nat → En → Prop) (tu : List Tn) : Prop := tu.Nodup ∧ ∀ t q, (t, q) ∈ tu ↔ ∃ x, l[q]? = some x ∧ t = x.e.vt ∧ P q x
theorem TuG.keep {l : List En} {P P' : Nat → En → Prop} {tu tu' : List Tn} (h : TuG l P tu) (hp : tu'.Perm tu) (hP : ∀ q y, l[q]? = some y → (P' q y ↔ P q y)) : TuG l P' tu' :=
  ⟨hp.nodup_iff.2 h.1, fun t q => by
    rw [hp.mem_iff, h.2]
    constructor
    · rintro ⟨x, h1, h2, h3⟩; exact ⟨x, h1, h2, (hP q x h1).2 h3⟩
    · rintro ⟨x, h1, h2, h3⟩; exact ⟨x, h1, h2, (hP q x h1).1 h3⟩⟩
theorem TuG.take {l : List En} {P P' : Nat → En → Prop} {tu tu' : List Tn} {k : Nat} {x : En} (h : TuG l P tu) (hx : l[k]? = some x) (hk : ¬ P k x) (hp : tu'.Perm ((x.e.vt, k) :: tu)) (hP : ∀ q y, l[q]? = some y → (P' q y ↔ (P q y ∨ q = k))) : TuG l P' tu' := by
  have hn : (x.e.vt, k) ∉ tu := fun hm => by
    obtain ⟨y, h1, _, h3⟩ := (h.2 _ _).1 hm
    rw [hx] at h1
    obtain rfl := Option.some.inj h1
    exact hk h3
  refine ⟨hp.nodup_iff.2 (List.nodup_cons.2 ⟨hn, h.1⟩), fun t q => ?_⟩
  rw [hp.mem_iff, List.mem_cons, h.2]
  constructor
  · rintro (h1 | ⟨y, h1, h2, h3⟩)
    · obtain ⟨rfl, rfl⟩ := Prod.mk.inj h1
      exact ⟨x, hx, rfl, (hP q x hx).2 (.inr rfl)⟩
    · exact ⟨y, h1, h2, (hP q y h1).2 (.inl h3)⟩
  · rintro ⟨y, h1, h2, h3⟩
    rcases (hP q y h1).1 h3 with h4 | h4
    · exact .inr ⟨y, h1, h2, h4⟩
    · subst h4
      rw [hx] at h1
      obtain rfl := Option.some.inj h1
      exact .inl (by rw [h2])
theorem TuG.none (l : List En) (P : Nat → En → Prop) (hP : ∀ q y, ¬ P q y) : TuG l P [] := ⟨List.nodup_nil, fun t q => by
  constructor
  · intro h; cases h
  · rintro ⟨x, _, _, h⟩; exact absurd h (hP q x)⟩
def Started (W0 w' : World) (p : Rv) (l : List En) (had : List Int) : Prop := ∃ st bh tu, Rn W0 w' p l had st bh tu [] ∧ p.ng ≤ 200000 ∧ StG l (cntAt l had had) st ∧ BhG l (behAt l had) bh ∧ HeapTo tu tu.length ∧ tu.length ≤ l.length ∧ TuG l (fun q x => readyB l had q x = true) tu
theorem stg_zero {l : List En} {n : Nat} (hn : n = l.length) {F : Nat → Nat} (hF : ∀ j, F j = 0) : StG l F (List.replicate n 0) := ⟨by rw [List.length_replicate]; exact hn, fun j hj => by rw [List.getElem?_replicate, if_pos (by omega), hF]; rfl⟩
theorem bhg_zero {l : List En} {G : Int → Nat → Nat} (hG : ∀ id j, G id j = 0) : BhG l G (fun _ => []) := fun id => ⟨fun z hz => (by cases hz), fun j hj => by rw [hG]; rfl⟩
set_option maxHeartbeats 8000000 in
set_option maxRecDepth 100000 in
theorem cStart {w : World} {lv : Value} {F H nf nh : Nat} {l : List En} {had : List Int} (hV : Vw w lv F H nf nh l had) (hl : l.length ≤ 1000) (hs : ∀ y ∈ l, y.short 100) :
    Calls Try.prog 24 #[.agg (vwC lv F H)] w fun e w' => ∃ p, e = .returned (.pointer (some ⟨p.R, 0, none⟩)) ∧ Started (w.alloc (.cells (vwC lv F H) 63)) w' p l had := by
  obtain ⟨b, o, cap, a, hlv, ha, hc, hbb⟩ := hV.sl
  have hlm : (evs l).length = l.length := List.length_map ..
  rw [hlm] at hlv ha hbb
  obtain ⟨n, hn⟩ : ∃ n, n = l.length := ⟨_, rfl⟩
  rw [← hn] at hlv hl
  have HN := hid hn
  have HV := hid hV
  have HS := hid hs
  obtain ⟨zc, hzc⟩ : ∃ zc, zc = madeCells #[.int .i64 0] (n * 1) := ⟨_, rfl⟩
  have k4 : ∀ W : World, Sem.run Try.prog (Instr.makeSlice 23 (.int .i64 (n : Int)) (.int .i64 (n : Int))) W = .ok (.slice (some ⟨W.heap.size, 0, none⟩) n n) (W.alloc (.cells zc 3)) := fun W => by
    obtain ⟨i0, hi, hz0, hz1, hz2⟩ := info_parts Try.infoI
    have hr := run_make (P := Try.prog) W 23 3 i0 _ Try.underlying23 hi hz0 .i64 .i64 n n (by omega) (Int.le_refl _) (by rw [hz2]; omega) (by omega)
    simp only [Int.toNat_natCast] at hr
    rw [hr, hzc, hz1]
    rfl
  have HZC := hid hzc
  subst hlv
  clear ha hc hbb hlm hn hV hs hzc
  unfold vwC
  have k5 : ∀ W : World, Sem.run Try.prog (Instr.makeMap 69 none) W = .ok (.map (some W.heap.size)) (W.alloc (.map #[] 0)) := fun W => run_makeMap _ _
  go_enter Try.func24, Try.ntmps24
  go_upto_region 1 with fail
  go_cut [3] from 5 (fun s3 wx => ∃ R g M, s3 = .pointer (some ⟨R, 0, none⟩) ∧ Hid (wx.heap[R]? = some (.cells #[.slice a n cap, .map (some F), .map (some H), .slice (some ⟨g, 0, none⟩) n n, .map (some M), .slice none 0 0, .slice none 0 0] 73 (0, 0))) ∧ Hid (wx.heap[g]? = some (.cells zc 3 (0, 0))) ∧ Hid (wx.heap[M]? = some (.map #[] 0)) ∧ Hid (w.heap.size < R ∧ w.heap.size < g ∧ w.heap.size < M) ∧ Hid (wx.heap[w.heap.size]? = some (.cells #[.slice a n cap, .map (some F), .map (some H)] 63 (0, 0))) ∧ Hid (Below w.heap.size w wx))
  case first =>
    have v0 : (w.alloc (.cells #[.slice a n cap, .map (some F), .map (some H)] 63)).cell? ⟨w.heap.size, 0, none⟩ = some (.slice a n cap) := (cellAt' (heap_alloc_new w _) 0).trans rfl
    go_region
    all_goals
      go_wp2_with fail
      go_meet
      first
        | exact ⟨w.heap.size + 1 + 1 + 1, w.heap.size + 1, w.heap.size + 1 + 1, rfl, hid (by first | exact (four w _ _ _ _).2.1 | exact (four w _ _ _ _).2.2.1 | exact (four w _ _ _ _).2.2.2), hid (by first | exact (four w _ _ _ _).2.1 | exact (four w _ _ _ _).2.2.1 | exact (four w _ _ _ _).2.2.2), hid (by first | exact (four w _ _ _ _).2.1 | exact (four w _ _ _ _).2.2.1 | exact (four w _ _ _ _).2.2.2), hid (by omega), hid (four w _ _ _ _).1, hid (belowDrew (((((Below.refl _ w).alloc (Nat.le_refl _) _).alloc (by simp) _).alloc (by simp; omega) _).alloc (by simp; omega) _))⟩
        | exact ⟨w.heap.size + 1 + 1 + 1, w.heap.size + 1 + 1, w.heap.size + 1, rfl, hid (by first | exact (four w _ _ _ _).2.1 | exact (four w _ _ _ _).2.2.1 | exact (four w _ _ _ _).2.2.2), hid (by first | exact (four w _ _ _ _).2.1 | exact (four w _ _ _ _).2.2.1 | exact (four w _ _ _ _).2.2.2), hid (by first | exact (four w _ _ _ _).2.1 | exact (four w _ _ _ _).2.2.1 | exact (four w _ _ _ _).2.2.2), hid (by omega), hid (four w _ _ _ _).1, hid (belowDrew (((((Below.refl _ w).alloc (Nat.le_refl _) _).alloc (by simp) _).alloc (by simp; omega) _).alloc (by simp; omega) _))⟩
  case rest =>
    obtain ⟨R, g, M, rfl, HBK, HGZ, HMZ, HLT, HVZ, HBW⟩ := hcut
    obtain ⟨w0, hw0⟩ : ∃ w0, w0 = w.alloc (.cells #[.slice a n cap, .map (some F), .map (some H)] 63) := ⟨_, rfl⟩
    have HW0 := hid hw0
    have hw0s : w0.heap.size = w.heap.size + 1 := by rw [hw0]; simp
    have HB00 : Hid (Below w.heap.size w w0) := hid (by rw [hw0]; exact (Below.refl _ w).alloc (Nat.le_refl _) _)
    have hv00 : w0.heap[w.heap.size]? = some (.cells #[.slice a n cap, .map (some F), .map (some H)] 63 (0, 0)) := by rw [hw0]; exact heap_alloc_new w _
    have HV00 := hid hv00
    have HB0 : Hid (Below w0.heap.size w0 wc) := hid ⟨HBW.out.os.trans HB00.out.os.symm, HBW.out.tape.trans HB00.out.tape.symm, HBW.out.output.trans HB00.out.output.symm, by have := HLT.out; have := (Array.getElem?_eq_some_iff.1 HBK.out).1; omega, fun q hq => by
      by_cases e : q = w.heap.size
      · subst e; rw [HVZ.out, hv00]
      · rw [HBW.out.block q (by omega), HB00.out.block q (by omega)]⟩
    clear hw0 hv00
    obtain ⟨l1, l2, l3⟩ := HLT.out
    have HVC : Hid (∀ W2, Below w0.heap.size w0 W2 → Vw W2 (.slice a n cap) F H nf nh l had) := hid (fun W2 hW2 => (HV.out.on HB00.out).on hW2)
    have HVX : Hid (∀ W2, Below w0.heap.size w0 W2 → W2.heap[w.heap.size]? = some (.cells #[.slice a n cap, .map (some F), .map (some H)] 63 (0, 0))) := hid (fun W2 hW2 => obOn HV00.out hW2 (by omega))
    have hgw : g < wc.heap.size := (Array.getElem?_eq_some_iff.1 HGZ.out).1
    have hmw : M < wc.heap.size := (Array.getElem?_eq_some_iff.1 HMZ.out).1
    have hne : g ≠ M := fun e => by subst e; exact cellsNot HMZ.out HGZ.out
    have HP : Hid (Rn w0 wc ⟨.slice a n cap, .slice (some ⟨g, 0, none⟩) n n, .slice none 0 0, .slice none 0 0, F, H, M, wc.heap.size, nf, nh, 0, R⟩ l had (List.replicate n 0) (fun _ => []) [] []) := hid (by
      refine ⟨⟨HB0.out, (HV.out.on HB00.out).sl, (HV.out.on HB00.out).at', HV.out.wf, (HVC.out wc HB0.out).mf, (HVC.out wc HB0.out).mh, ?_, ?_, ?_, ?_, ?_, ?_, Nat.le_refl _⟩, HBK.out, ?_, OwnG.nil _ _ _ _ _, Own.nil _ _⟩
      · show w0.heap.size ≤ M; omega
      · show F ≠ M; have := HV.out.mf.lt; omega
      · show H ≠ M; have := HV.out.mh.lt; omega
      · show World.ownsRow _ _ _ _ _ _ _
        rw [List.length_replicate]
        refine ⟨by unfold nums; rw [List.length_map, List.length_replicate]; omega, .inr ⟨g, n, zc, rfl, by omega, HGZ.out, Nat.le_refl _, by unfold maxLen; omega, by rw [HZC.out]; simp [madeCells], ?_⟩⟩
        rw [HZC.out, Nat.mul_one, toList_madeCells_one, nums]
        rw [List.map_replicate]
        exact List.take_of_length_le (by rw [List.length_replicate]; exact Nat.le_refl _)
      · intro k hk
        cases hk
        exact hgw
      · exact Gr.ofEmpty HMZ.out hmw
      · show w0.heap.size ≤ R; omega)
    have hV0 : wc.cell? ⟨w.heap.size, 0, none⟩ = some (.slice a n cap) := (cellAt' HVZ.out 0).trans rfl
    clear HGZ HMZ HBK hne hgw hmw l1 l2 l3
    go_wp2_with fail
    go_loopw [16] (fun s16 wr => ∃ (k : Nat) (q : Rv) (st : List Int) (bh : Int → List Int) (tu : List Tn), k ≤ n ∧ s16 = .int .i64 k ∧ Hid (Rn w0 wr q l had st bh tu []) ∧ Hid (q.R = R ∧ q.ng ≤ k * 100) ∧ Hid (StG l (fun j => if j < k then cntAt l had had j else 0) st) ∧ Hid (BhG l (fun id j => if j < k then behAt l had id j else 0) bh) ∧ Hid (HeapTo tu tu.length) ∧ Hid (tu.length ≤ k) ∧ Hid (TuG l (fun q x => q < k ∧ readyB l had q x = true) tu)) (fun s16 _ => n - (RowKit.intOf s16).toNat)
    case atStart =>
      exact ⟨0, _, _, _, _, Nat.zero_le _, rfl, HP, hid ⟨rfl, Nat.zero_le _⟩, hid (stg_zero HN.out (fun j => by simp)), hid (bhg_zero (fun id j => by simp)), hid (fun j _ hj => by simp at hj), hid (Nat.le_refl _), hid (TuG.none l _ (fun q y h => by omega))⟩
    case round =>
      clear hV0
      obtain ⟨k, q, st, bh, tu, hk, rfl, HQ, HQR, HST, HBH, HHP, HTL, HTU⟩ := hrel
      have HVB : Hid (wr.heap[w.heap.size]? = some (.cells #[.slice a n cap, .map (some F), .map (some H)] 63 (0, 0))) := hid (HVX.out wr HQ.out.sd.bel)
      by_cases hlt : k < n
      · have hlti : ((k : Int) < n) := by omega
        obtain ⟨x, hx⟩ : ∃ x, l[k]? = some x := ⟨l[k]'(by rw [← HN.out]; exact hlt), List.getElem?_eq_getElem (by rw [← HN.out]; exact hlt)⟩
        have HX := hid hx
        have v0 : wr.cell? ⟨w.heap.size, 0, none⟩ = some (.slice a n cap) := (cellAt' HVB.out 0).trans rfl
        have v1 : wr.cell? ⟨w.heap.size, 1, none⟩ = some (.map (some F)) := (cellAt' HVB.out 1).trans rfl
        have v2 : wr.cell? ⟨w.heap.size, 2, none⟩ = some (.map (some H)) := (cellAt' HVB.out 2).trans rfl
        obtain ⟨wt, hwt⟩ : ∃ z, z = waitB l had k x := ⟨_, rfl⟩
        have HWT := hid hwt
        have hOp := cOpen (HVC.out wr HQ.out.sd.bel) (by rw [← HN.out]; exact hl) hx hwt
        unfold vwC at hOp
        clear hx hwt
        rcases wt with _ | _
        · have HNR : Hid (readyB l had k x = false) := hid (by unfold readyB; rw [← HWT.out]; rfl)
          go_wp2_with (first
            | (go_at_call 21; refine hOp.mono ?_; clear hOp; rintro e w1 ⟨rfl, hB1⟩; have HB1 := hid hB1; clear hB1)
            | fail)
          go_roundw
          case rel => exact ⟨k + 1, q, st, bh, tu, by omega, by go_num, hid (HQ.out.on HB1.out), hid ⟨HQR.out.1, by have := HQR.out.2; omega⟩, hid (HST.out.same fun j _ => by
              by_cases e : j = k
              · subst e; rw [if_pos (by omega), if_neg (by omega), cntAt_some HX.out]; unfold cntO; rw [← HWT.out]; rfl
              · by_cases e2 : j < k
                · rw [if_pos (by omega), if_pos e2]
                · rw [if_neg (by omega), if_neg e2]), hid (HBH.out.same fun id j _ => by
              by_cases e : j = k
              · subst e; rw [if_pos (by omega), if_neg (by omega), behAt_some HX.out, ← HWT.out]; rfl
              · by_cases e2 : j < k
                · rw [if_pos (by omega), if_pos e2]
                · rw [if_neg (by omega), if_neg e2]), HHP, hid (by have := HTL.out; omega), hid (HTU.out.keep (List.Perm.refl _) fun z y hy => by
              constructor
              · rintro ⟨h1, h2⟩
                refine ⟨?_, h2⟩
                by_cases e : z = k
                · subst e
                  rw [HX.out] at hy
                  obtain rfl := Option.some.inj hy
                  rw [HNR.out] at h2; cases h2
                · omega
              · rintro ⟨h1, h2⟩; exact ⟨by omega, h2⟩)⟩
          case measure => first | omega | (simp [RowKit.intOf]; omega)
        · obtain ⟨z, hz⟩ : ∃ z, z = if cntP l had x = 0 then (x.e.vt, k) :: tu else tu := ⟨_, rfl⟩
          have HZ := hid hz
          have HEN : Hid (∀ w1, Below wr.heap.size wr w1 → Calls Try.prog 30 #[.pointer (some ⟨R, 0, none⟩), .int .i64 k] w1 fun e W' => e = .returned (.tuple #[]) ∧ ∃ p' st' bh' tu', Rn w0 W' p' l had st' bh' tu' [] ∧ p'.R = q.R ∧ p'.ng ≤ q.ng + 100 ∧ StG l (fun j => if j < k + 1 then cntAt l had had j else 0) st' ∧ BhG l (fun id j => if j < k + 1 then behAt l had id j else 0) bh' ∧ HeapTo tu' tu'.length ∧ tu'.Perm z) := hid (fun w1 hw1 => by
            have := cEnter (HQ.out.on hw1) (by rw [← HN.out]; exact hl) HS.out HX.out HHP.out (by have := HTL.out; omega) (by have := HQR.out.2; omega) HST.out HBH.out (by simp) (fun id => by simp) (F' := fun j => if j < k + 1 then cntAt l had had j else 0) (fun j => by
              by_cases e : j = k
              · subst e; rw [if_pos (by omega), if_pos rfl, cntAt_some HX.out]; unfold cntO; rw [← HWT.out]; rfl
              · rw [if_neg e]
                by_cases e2 : j < k
                · rw [if_pos (by omega), if_pos e2]
                · rw [if_neg (by omega), if_neg e2]) (G' := fun id j => if j < k + 1 then behAt l had id j else 0) (fun id j => by
              by_cases e : j = k
              · subst e; rw [if_pos (by omega), if_pos rfl, behAt_some HX.out, ← HWT.out]; rfl
              · rw [if_neg e]
                by_cases e2 : j < k
                · rw [if_pos (by omega), if_pos e2]
                · rw [if_neg (by omega), if_neg e2]) HZ.out
            rw [HQR.out.1] at this ⊢
            exact this)
          clear hz
          go_wp2_with (first
            | (go_at_call 21; refine hOp.mono ?_; clear hOp; rintro e w1 ⟨rfl, hB1⟩; have HB1 := hid hB1; clear hB1)
            | (go_at_call 30; refine (HEN.out _ HB1.out).mono ?_; rintro e w2 ⟨rfl, q2, st2, bh2, tu2, h2, h3, h4, h5, h6, h7, h8⟩; have K2 := hid h2; have K3 := hid h3; have K4 := hid h4; have K5 := hid h5; have K6 := hid h6; have K7 := hid h7; have K8 := hid h8; clear h2 h3 h4 h5 h6 h7 h8)
            | fail)
          go_roundw
          case rel => exact ⟨k + 1, q2, st2, bh2, tu2, by omega, by go_num, K2, hid ⟨K3.out.trans HQR.out.1, by have := HQR.out.2; have := K4.out; omega⟩, K5, K6, K7, hid (by
              rw [K8.out.length_eq, HZ.out]
              have := HTL.out
              split
              · rw [List.length_cons]; omega
              · omega), hid (by
              by_cases e0 : cntP l had x = 0
              · have hrd : readyB l had k x = true := by rw [ready_cnt, ← HWT.out, decide_eq_true e0]; rfl
                refine HTU.out.take HX.out (fun h => by omega) (by have := K8.out; rw [HZ.out, if_pos e0] at this; exact this) fun u y hy => ?_
                constructor
                · rintro ⟨h1, h2⟩
                  by_cases e : u = k
                  · exact .inr e
                  · exact .inl ⟨by omega, h2⟩
                · rintro (⟨h1, h2⟩ | h1)
                  · exact ⟨by omega, h2⟩
                  · subst h1
                    rw [HX.out] at hy
                    obtain rfl := Option.some.inj hy
                    exact ⟨by omega, hrd⟩
              · have hrd : readyB l had k x = false := by rw [ready_cnt, ← HWT.out, decide_eq_false e0]; rfl
                refine HTU.out.keep (by have := K8.out; rw [HZ.out, if_neg e0] at this; exact this) fun u y hy => ?_
                constructor
                · rintro ⟨h1, h2⟩
                  refine ⟨?_, h2⟩
                  by_cases e : u = k
                  · subst e
                    rw [HX.out] at hy
                    obtain rfl := Option.some.inj hy
                    rw [hrd] at h2; cases h2
                  · omega
                · rintro ⟨h1, h2⟩; exact ⟨by omega, h2⟩)⟩
          case measure => first | omega | (simp [RowKit.intOf]; omega)
      · have hlti : ¬ ((k : Int) < n) := by omega
        have hkn : k = n := by omega
        go_wp2_with fail
        go_ret
        refine ⟨q, by rw [HQR.out.1]; rfl, by
          show Started (w.alloc (.cells #[.slice a n cap, .map (some F), .map (some H)] 63)) _ _ _ _
          rw [← HW0.out]
          refine ⟨st, bh, tu, HQ.out, by have := HQR.out.2; omega, HST.out.same fun j hj => by rw [if_pos (by rw [hkn, HN.out]; exact hj)], HBH.out.same fun id j hj => by rw [if_pos (by rw [hkn, HN.out]; exact hj)], HHP.out, by have := HTL.out; rw [← HN.out]; omega, HTU.out.keep (List.Perm.refl _) fun z y hy => ?_⟩
          have := (List.getElem?_eq_some_iff.1 hy).1
          constructor
          · intro h; exact ⟨by rw [hkn, HN.out]; exact this, h⟩
          · exact fun h => h.2⟩
end Go.Proofs.Ytmggggijamligaa
namespace Go.Proofs.Ytmggggijamligaa
set_option linter.unusedVariables false
open Go.RowKit
open Go.Lib (hid)
theorem nodup_lt : ∀ (n : Nat) (l : List Nat), l.Nodup → (∀ x ∈ l, x < n) → l.length ≤ n
  | 0, l, _, h => by
    rcases l with _ | ⟨a, l⟩
    · exact Nat.le_refl _
    · exact absurd (h a (List.mem_cons_self ..)) (by omega)
  | n + 1, l, hn, h => by
    by_cases hm : n ∈ l
    · have h1 := List.length_erase_of_mem hm
      have h2 := nodup_lt n (l.erase n) (hn.erase n) (fun x hx => by
        obtain ⟨hne, hx2⟩ := (hn.mem_erase_iff).1 hx
        have := h x hx2; omega)
      have := List.length_pos_of_mem hm
      omega
    · have := nodup_lt n l hn (fun x hx => by
        have := h x hx
        have hne : x ≠ n := fun e => hm (e ▸ hx)
        omega)
      omega
theorem nodup_snd : ∀ (tu : List Tn), tu.Nodup → (∀ a ∈ tu, ∀ b ∈ tu, a.2 = b.2 → a = b) → (tu.map Prod.snd).Nodup
  | [], _, _ => List.nodup_nil
  | a :: tu, hn, hi => by
    obtain ⟨h1, h2⟩ := List.nodup_cons.1 hn
    rw [List.map_cons, List.nodup_cons]
    refine ⟨fun hm => ?_, nodup_snd tu h2 (fun a ha b hb => hi a (List.mem_cons_of_mem _ ha) b (List.mem_cons_of_mem _ hb))⟩
    obtain ⟨b, hb, he⟩ := List.mem_map.1 hm
    have := hi b (List.mem_cons_of_mem _ hb) a (List.mem_cons_self ..) he
    exact h1 (this ▸ hb)
theorem TuG.len {l : List En} {P : Nat → En → Prop} {tu : List Tn} (h : TuG l P tu) : tu.length ≤ l.length := by
  have h1 := nodup_snd tu h.1 (fun a ha b hb hab => by
    obtain ⟨t, q⟩ := a
    obtain ⟨t2, q2⟩ := b
    have hq : q = q2 := hab
    subst hq
    obtain ⟨x, hx, ht, _⟩ := (h.2 _ _).1 ha
    obtain ⟨y, hy, ht2, _⟩ := (h.2 _ _).1 hb
    rw [hx] at hy
    obtain rfl := Option.some.inj hy
    rw [ht, ht2])
  have h2 := nodup_lt l.length _ h1 (fun q hq => by
    obtain ⟨a, ha, rfl⟩ := List.mem_map.1 hq
    obtain ⟨x, hx, _⟩ := (h.2 a.1 a.2).1 ha
    exact (List.getElem?_eq_some_iff.1 hx).1)
  rw [List.length_map] at h2
  exact h2
structure Rdy (l : List En) (had h : List Int) (i : Nat) (x : En) : Prop where
  hx : l[i]? = some x
  dn : x.e.dn = true
  fnd : findN l x.id = some i
  new : hasI h x.id = false
  hadn : hasI had x.id = false
  cnt : cntP l h x = 0
  tol : ToldOK l had h
theorem Rdy.of {l : List En} {had h : List Int} {i : Nat} {x : En} (hx : l[i]? = some x) (hr : readyB l h i x = true) (hT : ToldOK l had h) : Rdy l had h i x := by
  rw [ready_cnt, Bool.and_eq_true, decide_eq_true_eq] at hr
  obtain ⟨hd, hn, hf⟩ := wait_parts.1 hr.1
  have h0 : hasI had x.id = false := by
    rcases e : hasI had x.id with _ | _
    · rfl
    · rw [hT.1 _ e] at hn; cases hn
  exact ⟨hx, hd, hf, hn, h0, hr.2, hT⟩
theorem Rdy.same {l : List En} {had h : List Int} {i : Nat} {x : En} (R : Rdy l had h i x) {j : Nat} {y : En} (hy : l[j]? = some y) (hf : findN l y.id = some j) (he : y.id = x.id) : j = i ∧ y = x := by
  rw [he, R.fnd] at hf
  have := Option.some.inj hf
  subst this
  have := R.hx
  rw [hy] at this
  exact ⟨rfl, Option.some.inj this⟩
theorem wait_back {l : List En} {had h : List Int} (hT : ToldOK l had h) {j : Nat} {y : En} (hw : waitB l h j y = true) : waitB l had j y = true := by
  obtain ⟨hd, hn, hf⟩ := wait_parts.1 hw
  refine wait_parts.2 ⟨hd, ?_, hf⟩
  rcases e : hasI had y.id with _ | _
  · rfl
  · rw [hT.1 _ e] at hn; cases hn
theorem Rdy.split {l : List En} {had h : List Int} {i : Nat} {x : En} (R : Rdy l had h i x) (j : Nat) : cntAt l had h j = behAt l had x.id j + cntAt l had (h ++ [x.id]) j := by
  unfold cntAt behAt
  rcases hy : l[j]? with _ | y
  · rfl
  · show cntO l had h j y = (if waitB l had j y then cntI l had y x.id else 0) + cntO l had (h ++ [x.id]) j y
    unfold cntO
    by_cases hw : waitB l had j y = true
    · rw [if_pos hw, if_pos hw, if_pos hw]
      exact cnt_split R.fnd R.hx R.dn R.new R.hadn y
    · rw [if_neg hw, if_neg hw, if_neg hw]
theorem Rdy.stops {l : List En} {had h : List Int} {i : Nat} {x : En} (R : Rdy l had h i x) {j : Nat} {y : En} (hy : l[j]? = some y) (hb : 0 < behAt l had x.id j) : waitB l (h ++ [x.id]) j y = true := by
  rw [behAt_some hy] at hb
  split at hb
  · rename_i hw
    obtain ⟨hd, hn, hf⟩ := wait_parts.1 hw
    have hs := cnt_split (had := had) R.fnd R.hx R.dn R.new R.hadn y
    refine wait_parts.2 ⟨hd, ?_, hf⟩
    rw [hasI_app]
    rcases e : hasI h y.id with _ | _
    · rw [Bool.false_or, decide_eq_false_iff_not]
      intro he
      obtain ⟨_, rfl⟩ := R.same hy hf he
      have := R.cnt
      omega
    · have := R.tol.2 j y hy hw e
      omega
  · omega
theorem Rdy.first {l : List En} {had h : List Int} {i : Nat} {x : En} (R : Rdy l had h i x) {tu : List Tn} (hT : TuG l (fun q y => readyB l h q y = true ∧ q ≠ i) tu) : TuG l (fun q y => waitB l (h ++ [x.id]) q y = true ∧ cntAt l had h q = 0) tu :=
  hT.keep (List.Perm.refl _) fun q y hy => by
    constructor
    · rintro ⟨hw, hc⟩
      obtain ⟨hd, hn, hf⟩ := wait_parts.1 hw
      rw [hasI_app, Bool.or_eq_false_iff, decide_eq_false_iff_not] at hn
      have hwh : waitB l h q y = true := wait_parts.2 ⟨hd, hn.1, hf⟩
      rw [cntAt_some hy] at hc
      unfold cntO at hc
      rw [if_pos (wait_back R.tol hwh)] at hc
      refine ⟨by rw [ready_cnt, hwh, decide_eq_true hc]; rfl, fun e => ?_⟩
      subst e
      have := R.hx
      rw [hy] at this
      obtain rfl := Option.some.inj this
      exact hn.2 rfl
    · rintro ⟨hr, hne⟩
      rw [ready_cnt, Bool.and_eq_true, decide_eq_true_eq] at hr
      obtain ⟨hd, hn, hf⟩ := wait_parts.1 hr.1
      refine ⟨wait_parts.2 ⟨hd, ?_, hf⟩, ?_⟩
      · rw [hasI_app, hn, Bool.false_or, decide_eq_false_iff_not]
        exact fun he => hne (R.same hy hf he).1
      · rw [cntAt_some hy]
        unfold cntO
        split
        · exact hr.2
        · rfl
theorem Rdy.last {l : List En} {had h : List Int} {i : Nat} {x : En} (R : Rdy l had h i x) (hr : readyB l h i x = true) {tu : List Tn} (hT : TuG l (fun q y => waitB l (h ++ [x.id]) q y = true ∧ cntAt l had (h ++ [x.id]) q = 0) tu) : TuG l (fun q y => readyB l (h ++ [x.id]) q y = true) tu :=
  hT.keep (List.Perm.refl _) fun q y hy => by
    have hT' := told_next R.tol R.hx hr
    constructor
    · intro hr2
      rw [ready_cnt, Bool.and_eq_true, decide_eq_true_eq] at hr2
      refine ⟨hr2.1, ?_⟩
      rw [cntAt_some hy]
      unfold cntO
      split
      · exact hr2.2
      · rfl
    · rintro ⟨hw, hc⟩
      rw [cntAt_some hy] at hc
      unfold cntO at hc
      rw [if_pos (wait_back hT' hw)] at hc
      rw [ready_cnt, hw, decide_eq_true hc]; rfl
theorem count_take {zs : List Int} {m : Nat} {z : Int} (hz : zs[m]? = some z) (j : Int) : (zs.take (m + 1)).count j = (zs.take m).count j + if j = z then 1 else 0 := by
  rw [List.take_add_one, hz, List.count_append]
  congr 1
  show List.count j [z] = _
  by_cases e : j = z
  · subst e; simp
  · rw [if_neg e, List.count_eq_zero, List.mem_singleton]; exact e
theorem count_take_le (zs : List Int) (m : Nat) (j : Int) : (zs.take m).count j ≤ zs.count j := (List.take_sublist m zs).count_le j
theorem tu_next {l : List En} {had h : List Int} {i : Nat} {x : En} (R : Rdy l had h i x) {zs : List Int} {m k : Nat} {y : En} (hz : zs[m]? = some (k : Int)) (hy : l[k]? = some y) (hcnt : ∀ j, j < l.length → zs.count (j : Int) = behAt l had x.id j) {tu tu' : List Tn}
    (hT : TuG l (fun q y => waitB l (h ++ [x.id]) q y = true ∧ cntAt l had h q - (zs.take m).count (q : Int) = 0) tu) (hp : tu'.Perm (if cntAt l had h k - (zs.take (m + 1)).count (k : Int) = 0 then (y.e.vt, k) :: tu else tu)) :
    TuG l (fun q y => waitB l (h ++ [x.id]) q y = true ∧ cntAt l had h q - (zs.take (m + 1)).count (q : Int) = 0) tu' := by
  have hkl := (List.getElem?_eq_some_iff.1 hy).1
  have h1 := count_take hz (k : Int)
  rw [if_pos rfl] at h1
  have h2 := count_take_le zs (m + 1) (k : Int)
  have h3 := hcnt k hkl
  have h4 := R.split k
  have hne : ∀ q : Nat, q ≠ k → (zs.take (m + 1)).count (q : Int) = (zs.take m).count (q : Int) := fun q hq => by
    have := count_take hz (q : Int)
    rw [if_neg (by omega)] at this
    exact this
  by_cases e0 : cntAt l had h k - (zs.take (m + 1)).count (k : Int) = 0
  · rw [if_pos e0] at hp
    refine hT.take hy (fun hh => by omega) hp fun q z hzq => ?_
    by_cases e : q = k
    · subst e
      rw [hy] at hzq
      obtain rfl := Option.some.inj hzq
      exact ⟨fun _ => .inr rfl, fun _ => ⟨R.stops hy (by omega), e0⟩⟩
    · rw [hne q e]
      exact ⟨fun h => .inl h, fun h => h.elim id (fun h => absurd h e)⟩
  · rw [if_neg e0] at hp
    refine hT.keep hp fun q z hzq => ?_
    by_cases e : q = k
    · subst e
      constructor
      · rintro ⟨_, h6⟩; exact absurd h6 e0
      · rintro ⟨_, h6⟩; omega
    · rw [hne q e]
end Go.Proofs.Ytmggggijamligaa
