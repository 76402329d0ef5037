/- The document's book: Place, of side 1. -/
import Derived.Test.YtdgllpfccdbdnaaKPlc
import Derived.Deep.CutRange
import Derived.StillTailTactics
namespace Go.Proofs.Ytdgllpfccdbdnaa
set_option linter.unusedVariables false
set_option linter.unusedSimpArgs false
open Go.RowKit
open Go.Lib (hid)

def meas1 (Lc : List Od) (left : Int) : Nat := (sideF 0 Lc).length + (if 0 < left then 1 else 0)
theorem meas1_le (L : List Od) (n : Int) (h : (sideF 0 L).length ≤ 8) : meas1 L n ≤ 9 := by unfold meas1; split <;> omega
theorem less_set1 (l : List Od) (k : Nat) (o : Od) : less (l.set k o) k = less l k := by
  unfold less
  rw [List.take_set_of_le (Nat.le_refl _), List.drop_set_of_lt (Nat.lt_succ_self _)]

set_option maxHeartbeats 25600000 in
set_option maxRecDepth 100000 in
theorem rPlace1 {w : World} {b B : Nat} {v : Value} {L bs ss : List Od} (hb : RB w b v) (h : OwnR w B v L) (hR : Rel L bs ss) (hF : FineB bs ss) (i p n : Int) (he : refE bs ss ⟨i, 1, p, n⟩ = 0) :
    Calls Try.prog 24 #[ptr b, .agg #[.int .i64 i, .int .i64 1, .int .i64 p, .int .i64 n]] w fun e w' => DocTo w w' b e (placeF bs ss ⟨i, 1, p, n⟩) := by
  have hmay := may_of he
  simp only at hmay
  obtain ⟨_, hi1, hp1, hp2, hn1, hn2⟩ := hmay
  have hl : L.length ≤ 8 := hR.len
  have HLL := hid hl
  have HLK : Hid (L.length ≤ 1000) := hid (by omega)
  have hre := (ref_bad hR ⟨i, 1, p, n⟩).symm.trans he
  have hbad : badF L ⟨i, 1, p, n⟩ = 0 := hre
  have hnn : ∀ x ∈ L, x.i ≠ i := none_any (by
    rcases ha : L.any (isI i) with _ | _
    · rfl
    · simp only at hre; rw [ha] at hre; split at hre; omega; split at hre; omega; exact absurd hre (by decide))
  have HPLC : Hid (Plc 1 0 p n ss bs i L [] n) := hid (by have := Plc.start (s := 1) (t := 0) (p := p) (id := i) hR (show 0 ≤ n by omega) hnn; rw [hR.e0, hR.e1] at this; exact this)
  obtain ⟨r, hr⟩ : ∃ r, r = placeF bs ss ⟨i, 1, p, n⟩ := ⟨_, rfl⟩
  have HPLW := hid (fun Lc fs left (hP : Plc 1 0 p n ss bs i Lc fs left) hd => rel_place1 hR hF he hP hd)
  rw [← hr] at HPLW ⊢
  have HFSL : Hid (∀ Lc fs left, Plc 1 0 p n ss bs i Lc fs left → fs.length ≤ 8) := hid (fun Lc fs left hP => by
    have h1 := (fillG_left (s := 1) (p := p) bs n (by omega) (fun x hx => by have := hF.fb x hx; unfold okO at this; omega)).2.2.1
    rw [hP.fi] at h1
    have := hF.len
    simp at h1; omega)
  have HS8 : Hid ((sideF 0 L).length ≤ 8) := hid (by have := hR.lens; rw [hR.e0]; omega)
  obtain ⟨W0, hW0⟩ : ∃ W, W = (w.alloc (ob4 i 1 p n)).alloc box3 := ⟨_, rfl⟩
  have hB0 : Below w.heap.size w W0 := by rw [hW0]; exact ((Below.refl _ w).alloc (Nat.le_refl _) _).alloc (by simp) _
  have HBad := hid (rBad (hb.on hB0) (OwnG.on h hB0) (by omega) ⟨i, 1, p, n⟩)
  rw [hbad] at HBad
  have HB0 := hid hB0
  have HRB := hid hb
  have HOW := hid h
  have HW0 := hid hW0
  have hbw := hb.cells.1
  obtain ⟨a, cap, nv, rfl, hnv⟩ := h.asSlice
  clear hnv
  clear h hb hR hF he hl hre hbad hnn hr hW0 hB0
  go_enter Try.func24, Try.ntmps24
  go_wp2_with fail
  go_at_call 38
  rw [← HW0.out]
  refine HBad.out.mono ?_
  rintro e w1 ⟨rfl, hB1⟩
  have HB1 : Hid (Below ((w.alloc (ob4 i 1 p n)).alloc box3).heap.size ((w.alloc (ob4 i 1 p n)).alloc box3) w1) := hid (by rw [← HW0.out]; exact hB1)
  have hBw := HB0.out.trans (hB1.mono HB0.out.size)
  have HO1 := hid (OwnG.on HOW.out hBw)
  obtain ⟨hlt1, c1, _⟩ := (HRB.out.on hBw).cells
  have HST : Hid (∀ (v2 : Value) (w2 : World), OwnR w2 w1.heap.size v2 L → Below w1.heap.size w1 w2 → Lp w (w2.alloc (.cells #[v2] 29)) i 1 p w2.heap.size v2 (.slice none 0 0) n L []) := hid fun v2 w2 hR2 hB2 => Lp.start HB1.out hB2 hR2
  clear hB1 hBw
  go_wp2_with (at_builtin; go_loud (refine wpList_copy_or rfl _ _ rfl (w0 := w1) rfl rfl rfl rfl HO1.out HLK.out ?_; (
    intro v2 w2 hR2 hB2
    have hLP := HST.out v2 w2 hR2 hB2
    obtain ⟨a2, c2, n2, rfl, hn2⟩ := hR2.asSlice
    have HLP := hid hLP
    clear hR2 hB2 hn2 hLP c1)))
  generalize hN : w2.heap.size = N at HLP
  generalize w2.alloc (.cells #[.slice a2 n2 c2] 29) = w3 at HLP ⊢
  clear hN
  go_loopg [8, 9, 10, 11] 9 (fun gg s8 s9 s10 s11 wr => ∃ (fs : List Fl) (fa : Option Addr) (fn fc : Nat) (vc : Value) (left : Int) (Lc : List Od), meas1 Lc left ≤ gg ∧ s8 = .slice fa fn fc ∧ Hid (Lp w wr i 1 p N vc (.slice fa fn fc) left Lc fs ∧ Plc 1 0 p n ss bs i Lc fs left))
  case atStart => exact ⟨[], none, 0, 0, .slice a2 n2 c2, n, L, meas1_le L n HS8.out, rfl, hid ⟨HLP.out, HPLC.out⟩⟩
  case round =>
    obtain ⟨fs, fa, fn, fc, vc, left, Lc, hgg, rfl, HI⟩ := hrel
    clear HLP
    have HI1 := hid HI.out.1
    have HP := hid HI.out.2
    have hl0 := HI.out.2.l0
    have hl1 := HI.out.2.l1
    clear HI
    obtain ⟨ca, cn, cc, rfl, hcn, hcx⟩ := OwnR.at HI1.out.row
    have HCN := hid hcn
    have hcn8 : cn ≤ 8 := by have := HP.out.len; omega
    clear hcx hcn
    obtain ⟨⟨hz, o0, o1, o2, o3, of⟩, q0, q1, q2, qf⟩ := HI1.out.cells
    obtain ⟨hltN, c0, fN⟩ := HI1.out.rb.cells
    by_cases hl : 0 < left
    · have HL0 := hid hl
      have HFI := hid (rFirst HI1.out.rb HI1.out.row (by have := HP.out.len; omega) 0 (by omega))
      go_wp2_with fail
      go_at_call 39
      refine HFI.out.mono ?_
      rintro e w4 ⟨z, rfl, hf1, hB4⟩
      have HI4 := hid (HI1.out.on hB4)
      clear o0 o1 o2 o3 of q0 q1 q2 qf c0 fN
      rcases hf1.at with ⟨hnil, rfl⟩ | ⟨j, x, xs, rfl, hj, hsx, hx⟩
      · have HPL := hid (HPLW.out Lc fs left HP.out (.inr (.inl hnil)))
        clear hf1 hB4 hnil
        obtain ⟨⟨hz, o0, o1, o2, o3, of⟩, q0, q1, q2, qf⟩ := HI4.out.cells
        obtain ⟨hltN, c0, fN⟩ := HI4.out.rb.cells
        by_cases h8 : 8 ≤ cn
        · have h8z : (8 : Int) ≤ (cn : Int) := by omega
          have HA := hid (HPL.out.2.1 HL0.out (by rw [← HCN.out]; exact h8))
          have HBE := hid HI4.out.be
          go_wp2_with fail
          refine bodyPost_ret (v := rpV 4 (.slice none 0 0) 0) (by simp [results, Try.results24, go_sem, q0, q1, q2]) rfl ?_
          exact DocTo.of HA.out (World.ownsRow_nil _ _ _ _) (RTo.same HRB.out HOW.out (below3 HBE.out (by omega) _ _ _))
        · have h8z : ¬ (8 : Int) ≤ (cn : Int) := by omega
          have HA := hid (HPL.out.2.2 HL0.out (by rw [← HCN.out]; omega))
          have HLD := hid (HI4.out.on (w' := w4.drew) ((Below.refl _ w4).drew))
          have HAL : Hid (OwnR (w4.drew.alloc (ob4 i 1 p left)) (w.heap.size + 2) (.slice ca cn cc) Lc) := hid (OwnG.on HLD.out.row ((Below.refl _ _).alloc (Nat.le_refl _) _))
          have HS1 : Hid (SlG Od.cells 4 (w4.drew.alloc (ob4 i 1 p left)) (.slice (some ⟨w4.heap.size, 0, none⟩) 1 1) [⟨i, 1, p, left⟩]) := hid (sl_one_or w4.drew ⟨i, 1, p, left⟩)
          have HBS : Hid (w.heap.size + 2 ≤ (w4.drew.alloc (ob4 i 1 p left)).heap.size) := hid (by simp; omega)
          have HLN : Hid (Lc.length ≤ 100000) := hid (by have := HP.out.len; omega)
          go_wp2_with fail
          go_region_law (first
            | (refine step_append_or rfl (.tmp 135) (.tmp 137) rfl (w.heap.size + 2) (.slice ca cn cc) Lc rfl HAL.out ⟨w4.heap.size, 0, none⟩ 1 1 ⟨i, 1, p, left⟩ rfl HS1.out HLN.out HBS.out ?_; (
                intro v6 w6 hR6 hg6 hf6
                obtain ⟨hrb6, hl6⟩ := HLD.out.rest hR6 hg6
                have HL6 := hid hl6
                obtain ⟨hlt6, d0, f6⟩ := hrb6.cells
                obtain ⟨a6, c6, n6, rfl, hn6⟩ := hR6.asSlice
                clear hR6 hg6 hf6 hrb6 hl6 hn6)))
          all_goals (
            clear o0 o1 o2 o3 of q0 q1 q2 qf c0 fN
            clear d0 f6
            generalize w6.setCell ⟨N, 0, none⟩ (.slice a6 n6 c6) = w7 at HL6 ⊢
            obtain ⟨⟨hz, o0, o1, o2, o3, of⟩, q0, q1, q2, qf⟩ := HL6.out.cells
            obtain ⟨hltN, c0, fN⟩ := HL6.out.rb.cells
            obtain ⟨hb2, e0, f0⟩ := (HRB.out.on HL6.out.be).cells
            have hne : ¬ b = w.heap.size + 1 := by omega
            have hne2 : ¬ w.heap.size + 1 = b := by omega
            have hne3 : ¬ b = N := by have := HL6.out.hN; omega
            have hne4 : ¬ N = b := by have := HL6.out.hN; omega
            have hne5 : ¬ b = w.heap.size := by omega
            have hne6 : ¬ w.heap.size = b := by omega
            have HFIN := hid (fun x y z => HL6.out.fin HRB.out x y z)
            go_wp2_with fail
            refine bodyPost_ret (v := rpV 0 (.slice fa fn fc) left) (by simp [results, Try.results24, go_sem, q0, q1, q2]) rfl ?_
            exact DocTo.of HA.out (HFIN.out _ _ _).1 (HFIN.out _ _ _).2
            )
      · have hxs : x.s = 0 := ((mem_side (s := 0) (y := x) Lc).1 (by rw [hsx]; simp)).2
        obtain ⟨xi, xq, xp, xn⟩ := x
        simp only at hxs
        subst hxs
        have HX := hid hx
        have HSX := hid hsx
        have hjn : (j : Int) < (cn : Int) := by have := HCN.out; omega
        have hj0 : (0 : Int) ≤ (j : Int) := by omega
        have HROW : Hid (∀ wz vz fz lz gs, Lp w wz i 1 p N vz fz lz Lc gs → ∀ a' n' c', vz = .slice a' n' c' → ∃ g, a' = some ⟨g, 0, none⟩ ∧ g < wz.heap.size ∧ (wz.cell? ⟨g, j * 4, none⟩ = some (.int .i64 xi) ∧ wz.cell? ⟨g, j * 4 + 1, none⟩ = some (.int .i64 0) ∧ wz.cell? ⟨g, j * 4 + 2, none⟩ = some (.int .i64 xp) ∧ wz.cell? ⟨g, j * 4 + 3, none⟩ = some (.int .i64 xn)) ∧ (∀ k, wz.frozen? ⟨g, k, none⟩ = false) ∧ g ≠ N ∧ w.heap.size + 2 ≤ g) := hid (by
          intro wz vz fz lz gs hLz a' n' c' e
          rcases OwnR.shape hLz.row with ⟨_, e2⟩ | ⟨g, cap', e2, _, _, h3, h4, h5, h6⟩
          · rw [e2] at hx; simp at hx
          · have hoff := own_offT hLz.row hLz.rb (by decide)
            rw [e2] at e hoff
            injection e with e3 _ _
            exact ⟨g, e3.symm, h4, h5 j _ hx, h6, fun e4 => hoff (by rw [e4]; rfl), h3⟩)
        obtain ⟨g, rfl, hg4, ⟨k0, k1, k2, k3⟩, kf, hgN, hg2⟩ := HROW.out _ _ _ _ _ HI4.out _ _ _ rfl
        clear hf1 hB4 hsx hx hj
        obtain ⟨⟨hz, o0, o1, o2, o3, of⟩, q0, q1, q2, qf⟩ := HI4.out.cells
        obtain ⟨hltN, c0, fN⟩ := HI4.out.rb.cells
        have HM := hid (fun W => rMeets1 i p left xi xp xn W)
        obtain ⟨mm, hmm⟩ : ∃ mm, mm = meetsB 1 p xp := ⟨_, rfl⟩
        rw [← hmm] at HM
        have HMM := hid hmm
        clear hmm
        go_upto_region 10 with fail
        go_cut [10] from 28 to 120 (fun s10 wx => s10 = .bool mm ∧ Hid (Lp w wx i 1 p N (.slice (some ⟨g, 0, none⟩) cn cc) (.slice fa fn fc) left Lc fs))
        case first =>
          go_region_law (first
            | (go_simp; go_at_call 40; (
                refine (HM.out _).mono ?_
                rintro e w5 ⟨rfl, hB5⟩
                have HI5 := hid (HI4.out.on (undrewP hB5))
                clear hB5)))
          all_goals (
            go_wp2_with fail
            go_meet
            exact ⟨rfl, HI5⟩)
        case rest =>
          obtain ⟨rfl, HI5⟩ := hcut
          clear o0 o1 o2 o3 of q0 q1 q2 qf c0 fN
          clear k0 k1 k2 k3 kf
          obtain ⟨g5, e5, hg5, ⟨k0, k1, k2, k3⟩, kf, _, _⟩ := HROW.out _ _ _ _ _ HI5.out _ _ _ rfl
          cases e5
          obtain ⟨⟨hz, o0, o1, o2, o3, of⟩, q0, q1, q2, qf⟩ := HI5.out.cells
          obtain ⟨hltN, c0, fN⟩ := HI5.out.rb.cells
          rcases mm with _ | _
          · have HPL := hid (HPLW.out Lc fs left HP.out (.inr (.inr ⟨_, _, HSX.out, HMM.out.symm⟩)))
            clear k0 k1 k2 k3 kf
            by_cases h8 : 8 ≤ cn
            · have h8z : (8 : Int) ≤ (cn : Int) := by omega
              have HA := hid (HPL.out.2.1 HL0.out (by rw [← HCN.out]; exact h8))
              have HBE := hid HI5.out.be
              go_wp2_with fail
              refine bodyPost_ret (v := rpV 4 (.slice none 0 0) 0) (by simp [results, Try.results24, go_sem, q0, q1, q2]) rfl ?_
              exact DocTo.of HA.out (World.ownsRow_nil _ _ _ _) (RTo.same HRB.out HOW.out (below3 HBE.out (by omega) _ _ _))
            · have h8z : ¬ (8 : Int) ≤ (cn : Int) := by omega
              have HA := hid (HPL.out.2.2 HL0.out (by rw [← HCN.out]; omega))
              have HLD := hid (HI5.out.on (w' := wc.drew) ((Below.refl _ wc).drew))
              have HAL : Hid (OwnR (wc.drew.alloc (ob4 i 1 p left)) (w.heap.size + 2) (.slice (some ⟨g, 0, none⟩) cn cc) Lc) := hid (OwnG.on HLD.out.row ((Below.refl _ _).alloc (Nat.le_refl _) _))
              have HS1 : Hid (SlG Od.cells 4 (wc.drew.alloc (ob4 i 1 p left)) (.slice (some ⟨wc.heap.size, 0, none⟩) 1 1) [⟨i, 1, p, left⟩]) := hid (sl_one_or wc.drew ⟨i, 1, p, left⟩)
              have HBS : Hid (w.heap.size + 2 ≤ (wc.drew.alloc (ob4 i 1 p left)).heap.size) := hid (by simp; omega)
              have HLN : Hid (Lc.length ≤ 100000) := hid (by have := HP.out.len; omega)
              go_wp2_with fail
              go_region_law (first
                | (refine step_append_or rfl (.tmp 135) (.tmp 137) rfl (w.heap.size + 2) (.slice (some ⟨g, 0, none⟩) cn cc) Lc rfl HAL.out ⟨wc.heap.size, 0, none⟩ 1 1 ⟨i, 1, p, left⟩ rfl HS1.out HLN.out HBS.out ?_; (
                    intro v6 w6 hR6 hg6 hf6
                    obtain ⟨hrb6, hl6⟩ := HLD.out.rest hR6 hg6
                    have HL6 := hid hl6
                    obtain ⟨hlt6, d0, f6⟩ := hrb6.cells
                    obtain ⟨a6, c6, n6, rfl, hn6⟩ := hR6.asSlice
                    clear hR6 hg6 hf6 hrb6 hl6 hn6)))
              all_goals (
                clear o0 o1 o2 o3 of q0 q1 q2 qf c0 fN
                clear d0 f6
                generalize w6.setCell ⟨N, 0, none⟩ (.slice a6 n6 c6) = w7 at HL6 ⊢
                obtain ⟨⟨hz, o0, o1, o2, o3, of⟩, q0, q1, q2, qf⟩ := HL6.out.cells
                obtain ⟨hltN, c0, fN⟩ := HL6.out.rb.cells
                obtain ⟨hb2, e0, f0⟩ := (HRB.out.on HL6.out.be).cells
                have hne : ¬ b = w.heap.size + 1 := by omega
                have hne2 : ¬ w.heap.size + 1 = b := by omega
                have hne3 : ¬ b = N := by have := HL6.out.hN; omega
                have hne4 : ¬ N = b := by have := HL6.out.hN; omega
                have hne5 : ¬ b = w.heap.size := by omega
                have hne6 : ¬ w.heap.size = b := by omega
                have HFIN := hid (fun x y z => HL6.out.fin HRB.out x y z)
                go_wp2_with fail
                refine bodyPost_ret (v := rpV 0 (.slice fa fn fc) left) (by simp [results, Try.results24, go_sem, q0, q1, q2]) rfl ?_
                exact DocTo.of HA.out (HFIN.out _ _ _).1 (HFIN.out _ _ _).2
                )
          · have hst := HP.out.step (by decide) HSX.out HX.out HMM.out.symm hl
            obtain ⟨hxn1, hxn2, hst1, hst2⟩ := hst
            simp only at hxn1 hxn2
            have HST1 := hid hst1
            have HST2 := hid hst2
            clear hst1 hst2
            obtain ⟨q, hqm⟩ : ∃ q, q = min left xn := ⟨_, rfl⟩
            rw [← hqm] at HST1 HST2
            have hqb : 1 ≤ q ∧ q ≤ left ∧ q ≤ xn := by omega
            obtain ⟨hqb1, hqb2, hqb3⟩ := hqb
            have HQM := hid hqm
            clear hqm
            go_upto_region 12 with fail
            go_cut [11] from 28 to 120 (fun s11 wx => s11 = .int .i64 q ∧ Hid (Lp w wx i 1 p N (.slice (some ⟨g, 0, none⟩) cn cc) (.slice fa fn fc) left Lc fs))
            case first =>
              rcases Int.lt_trichotomy left xn with hc | hc | hc
              · obtain rfl : q = left := by have := HQM.out; omega
                go_quiet (fail)
                go_wp2_with fail
                go_meet
                exact ⟨rfl, hid (HI5.out.on (belowDrewN (Below.refl _ _) _))⟩
              · obtain rfl : q = left := by have := HQM.out; omega
                obtain rfl : q = xn := hc
                go_quiet (fail)
                go_wp2_with fail
                go_meet
                exact ⟨rfl, hid (HI5.out.on (belowDrewN (Below.refl _ _) _))⟩
              · obtain rfl : q = xn := by have := HQM.out; omega
                go_quiet (fail)
                go_wp2_with fail
                go_meet
                exact ⟨rfl, hid (HI5.out.on (belowDrewN (Below.refl _ _) _))⟩
            case rest =>
              obtain ⟨rfl, HI6⟩ := hcut
              clear o0 o1 o2 o3 of q0 q1 q2 qf c0 fN
              clear k0 k1 k2 k3 kf
              obtain ⟨g6, e6, hg6, ⟨k0, k1, k2, k3⟩, kf, _, _⟩ := HROW.out _ _ _ _ _ HI6.out _ _ _ rfl
              cases e6
              obtain ⟨⟨hz, o0, o1, o2, o3, of⟩, q0, q1, q2, qf⟩ := HI6.out.cells
              obtain ⟨hltN, c0, fN⟩ := HI6.out.rb.cells
              have HLD := hid (HI6.out.on (w' := wc.drew) ((Below.refl _ wc).drew))
              have HFL : Hid (OwnF (wc.drew.alloc (.cells #[.int .i64 xi, .int .i64 xp, .int .i64 q] 55)) (w.heap.size + 2) (.slice fa fn fc) fs) := hid (OwnG.on HLD.out.fl ((Below.refl _ _).alloc (Nat.le_refl _) _))
              have HS2 : Hid (SlG Fl.cells 3 (wc.drew.alloc (.cells #[.int .i64 xi, .int .i64 xp, .int .i64 q] 55)) (.slice (some ⟨wc.heap.size, 0, none⟩) 1 1) [⟨xi, xp, q⟩]) := hid (sl_one_of wc.drew ⟨xi, xp, q⟩)
              have HBS : Hid (w.heap.size + 2 ≤ (wc.drew.alloc (.cells #[.int .i64 xi, .int .i64 xp, .int .i64 q] 55)).heap.size) := hid (by simp; omega)
              have HLN : Hid (fs.length + [(⟨xi, xp, q⟩ : Fl)].length ≤ 1000000) := hid (by have := HFSL.out Lc fs left HP.out; simp; omega)
              have HLN2 : Hid (fs.length ≤ 100000) := hid (by have := HFSL.out Lc fs left HP.out; omega)
              go_upto_region 13 with fail
              go_cut [8] from 28 to 120 (fun s8 wx => ∃ a7 n7 c7, s8 = .slice a7 n7 c7 ∧ Hid (Lp w wx i 1 p N (.slice (some ⟨g, 0, none⟩) cn cc) (.slice a7 n7 c7) left Lc (fs ++ [⟨xi, xp, q⟩])))
              case first =>
                go_region_law (first
                  | (refine step_append_of rfl (.tmp 60) (.tmp 79) rfl (w.heap.size + 2) (.slice fa fn fc) fs rfl HFL.out ⟨wc.heap.size, 0, none⟩ 1 1 ⟨xi, xp, q⟩ rfl HS2.out HLN2.out HBS.out ?_; (
                      intro v7 w7 hR7 hg7 hf7
                      have HI7 := hid (HLD.out.fill hR7 hg7)
                      obtain ⟨a7, c7, n7, rfl, hn7⟩ := hR7.asSlice
                      clear hR7 hg7 hf7 hn7)))
                all_goals (
                  go_wp2_with fail
                  go_meet
                  exact ⟨_, _, _, rfl, HI7⟩)
              case rest =>
              obtain ⟨a7, n7, c7, rfl, HI7⟩ := hcut
              clear o0 o1 o2 o3 of q0 q1 q2 qf c0 fN
              clear k0 k1 k2 k3 kf
              obtain ⟨⟨hz7, _, _, _, o7, of7⟩, _, _, _, _⟩ := HI7.out.cells
              go_wp2_with fail
              generalize hw8 : wc.setCell ⟨w.heap.size, 3, none⟩ (.int .i64 (left - q)) = w8
              have HI8 : Hid (Lp w w8 i 1 p N (.slice (some ⟨g, 0, none⟩) cn cc) (.slice a7 n7 c7) (left - q) Lc (fs ++ [⟨xi, xp, q⟩])) := hid (by rw [← hw8]; exact HI7.out.less (left - q))
              clear hw8 o7 of7
              obtain ⟨g7, e7, hg7, ⟨k0, k1, k2, k3⟩, kf, _, _⟩ := HROW.out _ _ _ _ _ HI8.out _ _ _ rfl
              cases e7
              obtain ⟨⟨hz, o0, o1, o2, o3, of⟩, q0, q1, q2, qf⟩ := HI8.out.cells
              obtain ⟨hltN, c0, fN⟩ := HI8.out.rb.cells
              have HI9 := hid (HI8.out.on (w' := w8.drew) ((Below.refl _ w8).drew))
              have hgs : ¬ g = w.heap.size := by omega
              have hgs2 : ¬ w.heap.size = g := by omega
              have hgn : ¬ N = g := fun e => hgN e.symm
              have hns : ¬ N = w.heap.size := by have := HI8.out.hN; omega
              have hns2 : ¬ w.heap.size = N := by omega
              by_cases hz : xn - q = 0
              · have hw9 : IntKind.i64.wrap (xn - q) = 0 := by rw [hz, IntKind.wrap_i64]; decide
                have HIA := hid (HI9.out.turn HX.out 0)
                have HST := hid (HST1.out hz)
                have HLS : Hid (less (Lc.set j ⟨xi, 0, xp, 0⟩) j = less Lc j) := hid (less_set1 _ _ _)
                clear hz
                go_still_tail 17, (by kernel_rfl)
                change wpList _ _ _ _ _ w8.drew
                go_wp2_with fail
                go_at_call 41
                generalize hwa : (w8.setCell ⟨g, j * 4 + 3, none⟩ (.int .i64 0)).drew = wa
                have HIB : Hid (Lp w wa i 1 p N (.slice (some ⟨g, 0, none⟩) cn cc) (.slice a7 n7 c7) (left - q) (Lc.set j ⟨xi, 0, xp, 0⟩) (fs ++ [⟨xi, xp, q⟩])) := hid (by rw [← hwa]; exact HIA.out)
                refine (rWithout HIB.out.row (by rw [List.length_set]; have := HP.out.len; omega) j).mono ?_
                rintro e wb ⟨rb, rfl, hOb, hBb⟩
                rw [HLS.out] at hOb
                have HIC := hid (HIB.out.put hBb hOb (by have := HIB.out.cells.1.1; omega))
                obtain ⟨hltb, cb, fb⟩ := (HIB.out.rb.on hBb).cells
                obtain ⟨ab, capb, nb, rfl, hnb⟩ := hOb.asSlice
                clear o0 o1 o2 o3 of q0 q1 q2 qf c0 fN
                clear k0 k1 k2 k3 kf hOb hBb hwa hnb
                go_wp2_with fail
                go_roundg (meas1 (less Lc j) (left - q))
                case measure =>
                  have h1 := HST.out.2
                  have h2 := HSX.out
                  unfold meas1 at hgg ⊢
                  rw [h1]
                  rw [h2, if_pos HL0.out, List.length_cons] at hgg
                  split <;> omega
                case rel => exact ⟨_, _, _, _, _, _, _, Nat.le_refl _, rfl, hid ⟨HIC.out, HST.out.1⟩⟩
              · have hw9 : IntKind.i64.wrap (xn - q) = xn - q := by rw [IntKind.wrap_i64]; omega
                have HIA := hid (HI9.out.turn HX.out (xn - q))
                have HST := hid (HST2.out hz)
                go_still_tail 17, (by kernel_rfl)
                change wpList _ _ _ _ _ w8.drew
                go_wp2_with fail
                generalize hwa : (w8.setCell ⟨g, j * 4 + 3, none⟩ (.int .i64 (xn - q))).drew = wa
                have HIB : Hid (Lp w wa i 1 p N (.slice (some ⟨g, 0, none⟩) cn cc) (.slice a7 n7 c7) (left - q) (Lc.set j ⟨xi, 0, xp, xn - q⟩) (fs ++ [⟨xi, xp, q⟩])) := hid (by rw [← hwa]; exact HIA.out)
                clear hwa
                go_roundg (meas1 (Lc.set j ⟨xi, 0, xp, xn - q⟩) (left - q))
                case measure =>
                  have h1 := HST.out.2.2
                  have h2 := HST.out.2.1
                  unfold meas1 at hgg ⊢
                  rw [if_pos HL0.out] at hgg
                  rw [if_neg (by omega), h1]
                  omega
                case rel => exact ⟨_, _, _, _, _, _, _, Nat.le_refl _, rfl, hid ⟨HIB.out, HST.out.1⟩⟩
    · obtain rfl : left = 0 := by omega
      have HA := hid ((HPLW.out Lc fs 0 HP.out (.inl rfl)).1 rfl)
      obtain ⟨hb2, e0, f0⟩ := (HRB.out.on HI1.out.be).cells
      have hne : ¬ b = w.heap.size + 1 := by omega
      have hne2 : ¬ w.heap.size + 1 = b := by omega
      have hne3 : ¬ b = N := by have := HI1.out.hN; omega
      have hne4 : ¬ N = b := by have := HI1.out.hN; omega
      have hne5 : ¬ b = w.heap.size := by omega
      have hne6 : ¬ w.heap.size = b := by omega
      have HFIN := hid (fun x y z => HI1.out.fin HRB.out x y z)
      go_wp2_with fail
      refine bodyPost_ret (v := rpV 0 (.slice fa fn fc) 0) (by simp [results, Try.results24, go_sem, q0, q1, q2]) rfl ?_
      exact DocTo.of HA.out (HFIN.out _ _ _).1 (HFIN.out _ _ _).2
end Go.Proofs.Ytdgllpfccdbdnaa

