/- The walk of the law BookFirst, an order of one side. -/
import Derived.Test.YtolbgmihphonbaaBFirstH
namespace Go.Proofs.Ytolbgmihphonbaa
set_option linter.unusedVariables false
open Go.RowKit
open Go.Lib (hid)

set_option maxHeartbeats 12800000 in
set_option maxRecDepth 100000 in
theorem wFirst1 {w : World} {v : Value} {xs : List Ak} (h : SlA w v xs) (h80 : ¬ 80 < xs.length) (ok : Nat) (oi op oq : Int) : Calls Try.prog 4 #[v, .agg #[.int .u8 ok, .int .i64 oi, .int .i64 1, .int .i64 op, .int .i64 oq]] w fun e w' => e = .returned (.bool true) ∧ Below w.heap.size w w' := by
  obtain ⟨a, n, cap, rfl, hn, hx⟩ := h.shape
  rw [← hn] at h80
  have HN := hid hn
  have HX := hid hx
  clear h hn hx
  go_enter Try.func4, Try.ntmps4
  go_wp2_with fail
  obtain ⟨W0, hW0⟩ : ∃ W0, W0 = w.alloc (.cells #[.int .u8 ok, .int .i64 oi, .int .i64 1, .int .i64 op, .int .i64 oq] 33) := ⟨_, rfl⟩
  have hb0 : Below w.heap.size w W0 := by rw [hW0]; exact (Below.refl _ w).alloc (Nat.le_refl _) _
  have hq0 : W0.heap[w.heap.size]? = some (.cells #[.int .u8 ok, .int .i64 oi, .int .i64 1, .int .i64 op, .int .i64 oq] 33 (0, 0)) := by rw [hW0]; exact heap_alloc_new w _
  have hs0 : W0.heap.size = w.heap.size + 1 := by rw [hW0]; simp
  rw [← hW0]
  have HQ0 := hid (And.intro hb0 (And.intro hq0 hs0))
  clear hW0 hb0 hq0 hs0
  go_at_call 6
  refine (cNew W0).mono ?_
  rintro e w1 ⟨rfl, hK1, hB1⟩
  obtain ⟨B, hBe⟩ : ∃ B, B = W0.heap.size := ⟨_, rfl⟩
  rw [← hBe] at hK1 hB1 ⊢
  have HI1 := hid (show Fb w1 B B [] [] ∧ Below B W0 w1 from ⟨⟨FineB.nil, _, _, hK1⟩, hB1⟩)
  have HE := hid hBe
  clear hK1 hB1 hBe
  go_wp2_with fail
  go_loopg [6] n (fun gg s6 wr => ∃ (j : Nat) (bs ss : List Od), j ≤ n ∧ n - j ≤ gg ∧ s6 = .int .i64 j ∧ Hid (Fb wr B B bs ss ∧ Below B W0 wr))
  case atStart => exact ⟨0, [], [], Nat.zero_le _, by omega, rfl, HI1⟩
  case round =>
    obtain ⟨j, bs, ss, hj, hgg, rfl, HI⟩ := hrel
    clear HI1
    have hFb := HI.out.1
    obtain ⟨hF, va, vb, hK⟩ := hFb
    have HF := hid hF
    have HK := hid hK
    have HBW := hid HI.out.2
    clear hF hK
    by_cases hlt : j < n
    · have hltz : (j : Int) < (n : Int) := by omega
      obtain ⟨x, hx⟩ : ∃ x, xs[j]? = some x := ⟨xs[j]'(by rw [← HN.out]; exact hlt), List.getElem?_eq_getElem (by rw [← HN.out]; exact hlt)⟩
      obtain ⟨b, o, rfl, hb, k0, k1, k2, k3, k4, hk8⟩ := HX.out j x hx
      have hbw : Below w.heap.size w wr := HQ0.out.1.trans (HBW.out.mono (by rw [HE.out]; exact HQ0.out.1.size))
      have d0 := (hbw.cell (p := ⟨b, o + j * 5, none⟩) hb).trans k0
      have d1 := (hbw.cell (p := ⟨b, o + j * 5 + 1, none⟩) hb).trans k1
      have d2 := (hbw.cell (p := ⟨b, o + j * 5 + 2, none⟩) hb).trans k2
      have d3 := (hbw.cell (p := ⟨b, o + j * 5 + 3, none⟩) hb).trans k3
      have d4 := (hbw.cell (p := ⟨b, o + j * 5 + 4, none⟩) hb).trans k4
      have hBs : B ≤ wr.heap.size := by rw [HE.out]; exact HBW.out.size
      have HST := hid (cStep HK.out HF.out hBs x hk8)
      have HBs := hid hBs
      clear hx k0 k1 k2 k3 k4 hbw hk8 hBs
      go_wp2_with fail
      go_at_call 9
      refine HST.out.mono ?_
      rintro e w4 ⟨err, fs, left, bs', ss', ⟨f, rfl, hOF, hT⟩, hR⟩
      have HI4 := hid (show Fb w4 B B bs' ss' ∧ Below B W0 w4 from ⟨⟨hR.fine, hT.ex⟩, HBW.out.trans (hT.below HK.out HBs.out)⟩)
      clear hOF hT hR
      go_wp2_with fail
      go_roundg (n - (j + 1))
      case measure => omega
      case rel => exact ⟨j + 1, bs', ss', by omega, by omega, by go_num, HI4⟩
    · have hltz : ¬ (j : Int) < (n : Int) := by omega
      have hBs : B ≤ wr.heap.size := by rw [HE.out]; exact HBW.out.size
      have HBs := hid hBs
      have hzb : w.heap.size < B := by rw [HE.out, HQ0.out.2.2]; omega
      have ho := obOn HQ0.out.2.1 HBW.out hzb
      have p1 := cellAt' ho 1; have p2 := cellAt' ho 2; have p3 := cellAt' ho 3; have p4 := cellAt' ho 4
      simp at p1 p2 p3 p4
      have hzw : w.heap.size < wr.heap.size := by omega
      have HO := hid ho
      clear hBs ho
      go_wp2_with fail
      go_at_call 12
      refine (cOrders0 HK.out HF.out.lens).mono ?_
      rintro e w2 ⟨vo, rfl, hOO, hB2⟩
      obtain ⟨ao, co, no, rfl, hno⟩ := hOO.asSlice
      have c1 := (hB2.cell (p := ⟨w.heap.size, 1, none⟩) hzw).trans p1
      have c2 := (hB2.cell (p := ⟨w.heap.size, 2, none⟩) hzw).trans p2
      have c3 := (hB2.cell (p := ⟨w.heap.size, 3, none⟩) hzw).trans p3
      have c4 := (hB2.cell (p := ⟨w.heap.size, 4, none⟩) hzw).trans p4
      have HO2 := hid (obOn HO.out hB2 hzw)
      have HB2 := hid hB2
      have HOO := hid hOO
      have HNO := hid hno
      have hK2 := HK.out.on hB2
      have hBs2 : B ≤ w2.heap.size := Nat.le_trans HBs.out hB2.size
      have HK2 := hid hK2
      have HPL := hid (cPlace hK2 HF.out hBs2 oi 1 op oq)
      have HBs2 := hid hBs2
      clear p1 p2 p3 p4 hB2 hOO hno hK2 hBs2
      go_wp2_with fail
      go_at_call 13
      refine HPL.out.mono ?_
      rintro e w3 ⟨err, fs, left, bs', ss', ⟨f, rfl, hOF, hT⟩, hR⟩
      obtain ⟨af, cf, nf, rfl, hnf⟩ := hOF.asSlice
      have HOO3 := hid (HOO.out.over HK.out (Nat.le_refl _) hT)
      have HW3 : Hid (Below B W0 w3) := hid ((HBW.out.trans (HB2.out.mono HBs.out)).trans (hT.below HK2.out HBs2.out))
      have ho3 := obOn HQ0.out.2.1 HW3.out hzb
      have HO3 := hid ho3
      have HOF3 := hid hOF
      have HNF := hid hnf
      have HR := hid hR
      clear hOF hT hR c1 c2 c3 c4 hnf ho3
      by_cases he : err = 0
      · subst he
        obtain ⟨qb, hsum, hl0, hf8, htk, hsf, hfo, ho8, hff, hfe⟩ := place_first HF.out (.inr ⟨rfl, rfl⟩) HR.out
        have HFF := hid hff
        have HFE := hid hfe
        have HTK := hid htk
        have HF8 := hid hf8
        have hnf8 : nf ≤ 8 := by have := HNF.out; omega
        have hnfo : nf ≤ no := by have := HNF.out; have := HNO.out; omega
        have hno8 : no ≤ 8 := by have := HNO.out; omega
        have hnn : ¬ (no : Int) < (nf : Int) := by omega
        have hnd : decide (no < nf) = false := by simp; omega
        obtain ⟨F, hFe⟩ : ∃ F, F = sumF fs := ⟨_, rfl⟩
        rw [← hFe] at hsum hsf
        have HFe := hid hFe
        clear hff hfe htk hf8 hfo ho8 hFe
        go_wp2_with fail
        generalize hW5 : w3.alloc (.cells #[.int .i64 0, .slice af nf cf, .int .i64 left] 37) = W5
        have hb35 : Below w3.heap.size w3 W5 := by rw [← hW5]; exact (Below.refl _ w3).alloc (Nat.le_refl _) _
        have hq5 : W5.heap[w3.heap.size]? = some (.cells #[.int .i64 0, .slice af nf cf, .int .i64 left] 37 (0, 0)) := by rw [← hW5]; exact heap_alloc_new w3 _
        have HB35 := hid hb35
        have HY := hid hq5
        have hzr : w3.heap.size < W5.heap.size := (Array.getElem?_eq_some_iff.1 hq5).1
        have HO5 := hid (obOn HO3.out hb35 (by have := HW3.out.size; have := HE.out; have := HQ0.out.2.2; omega))
        have hzo : w.heap.size < W5.heap.size := (Array.getElem?_eq_some_iff.1 HO5.out).1
        have HSF : Hid (∀ k f, fs[k]? = some f → ∃ g, af = some ⟨g, 0, none⟩ ∧ g < W5.heap.size ∧ W5.cell? ⟨g, k * 3, none⟩ = some (.int .i64 f.i) ∧ W5.cell? ⟨g, k * 3 + 1, none⟩ = some (.int .i64 f.p) ∧ W5.cell? ⟨g, k * 3 + 2, none⟩ = some (.int .i64 f.q)) := hid fun k f hk => by
          rcases OwnF.shape (HOF3.out.on hb35) with ⟨_, e⟩ | ⟨g, cap', e, _, _, _, hg, hc, _⟩
          · rw [e] at hk; simp at hk
          · injection e with e2 e3 e4
            exact ⟨g, e2, hg, hc k f hk⟩
        have HSO : Hid (∀ k x, bs[k]? = some x → ∃ g, ao = some ⟨g, 0, none⟩ ∧ g < W5.heap.size ∧ W5.cell? ⟨g, k * 4, none⟩ = some (.int .i64 x.i) ∧ W5.cell? ⟨g, k * 4 + 1, none⟩ = some (.int .i64 x.s) ∧ W5.cell? ⟨g, k * 4 + 2, none⟩ = some (.int .i64 x.p) ∧ W5.cell? ⟨g, k * 4 + 3, none⟩ = some (.int .i64 x.n)) := hid fun k x hk => by
          rcases OwnO.shape (HOO3.out.on hb35) with ⟨_, e⟩ | ⟨g, cap', e, _, _, _, hg, hc, _⟩
          · rw [e] at hk; simp at hk
          · injection e with e2 e3 e4
            exact ⟨g, e2, hg, hc k x hk⟩
        have HOF5 := hid (HOF3.out.on hb35)
        have HW5 : Hid (Below w.heap.size w W5) := hid ((HQ0.out.1.trans (HW3.out.mono (by rw [HE.out]; exact HQ0.out.1.size))).trans (hb35.mono (by have := HW3.out.size; have := HE.out; have := HQ0.out.2.2; omega)))
        clear hW5 hb35 hq5
        go_loopg [9, 10, 11, 12] nf (fun gg s9 s10 s11 s12 wr => ∃ k : Nat, k ≤ nf ∧ nf - k ≤ gg ∧ s9 = .int .i64 k ∧ Hid (Below W5.heap.size W5 wr))
        case atStart => exact ⟨0, Nat.zero_le _, by omega, rfl, hid (Below.refl _ _)⟩
        case round =>
          obtain ⟨k, hk, hkg, rfl, HWQ⟩ := hrel
          have y1 := (HWQ.out.cell (p := ⟨w3.heap.size, 1, none⟩) hzr).trans (cellAt' HY.out 1)
          have y2 := (HWQ.out.cell (p := ⟨w3.heap.size, 2, none⟩) hzr).trans (cellAt' HY.out 2)
          simp at y1 y2
          have hsq := HWQ.out.size
          by_cases hlk : k < nf
          · have hlkz : (k : Int) < (nf : Int) := by omega
            obtain ⟨fl, hfl⟩ : ∃ f, fs[k]? = some f := ⟨fs[k]'(by rw [← HNF.out]; exact hlk), List.getElem?_eq_getElem (by rw [← HNF.out]; exact hlk)⟩
            obtain ⟨gf, rfl, hgf, a0, a1, a2⟩ := HSF.out k fl hfl
            obtain ⟨x, hx, e1, e2, hme, e4, e5, e6, hw⟩ := HFF.out k fl hfl
            obtain ⟨go, rfl, hgo, b0, b1, b2, b3⟩ := HSO.out k x hx
            obtain ⟨fi, fp, fq⟩ := fl
            simp only at e1 e2 a0 a1 a2 e4 e5 hw
            subst e1 e2
            have f0 := (HWQ.out.cell (p := ⟨gf, k * 3, none⟩) hgf).trans a0
            have f1 := (HWQ.out.cell (p := ⟨gf, k * 3 + 1, none⟩) hgf).trans a1
            have f2 := (HWQ.out.cell (p := ⟨gf, k * 3 + 2, none⟩) hgf).trans a2
            have x0 := (HWQ.out.cell (p := ⟨go, k * 4, none⟩) hgo).trans b0
            have x2 := (HWQ.out.cell (p := ⟨go, k * 4 + 2, none⟩) hgo).trans b2
            have x3 := (HWQ.out.cell (p := ⟨go, k * 4 + 3, none⟩) hgo).trans b3
            have p2 := (HWQ.out.cell (p := ⟨w.heap.size, 2, none⟩) hzo).trans (cellAt' HO5.out 2)
            have p3 := (HWQ.out.cell (p := ⟨w.heap.size, 3, none⟩) hzo).trans (cellAt' HO5.out 3)
            simp at p2 p3
            have hwo : w.heap.size < wr.heap.size := Nat.lt_of_lt_of_le hzo hsq
            have hwy : w3.heap.size < wr.heap.size := Nat.lt_of_lt_of_le hzr hsq
            have hkno : k < no := by omega
            have hknz : (k : Int) < (no : Int) := by omega
            have HZ := hid (And.intro hgf (And.intro hgo (And.intro hzo hzr)))
            have HWW := hid hw
            have hwr1 : gf < wr.heap.size := by omega
            have hwr2 : go < wr.heap.size := by omega
            clear hfl hx a0 a1 a2 b0 b1 b2 b3 hw
            go_wp2_with fail
            go_quiet (fail)
            go_wp2_with fail
            refine opaqueR _ ?_
            intro W6 hW6
            have hb6 : Below wr.heap.size wr W6 := by rw [hW6]; exact belowDrewN ((Below.refl _ wr).alloc (Nat.le_refl _) _) _
            have hq6 : W6.heap[wr.heap.size]? = some (.cells #[.int .i64 x.i, .int .i64 x.p, .int .i64 fq] 46 (0, 0)) := by rw [hW6]; exact heap_alloc_new wr _
            have HQ6 := hid hq6
            have HB6 := hid hb6
            have z6 := (Array.getElem?_eq_some_iff.1 hq6).1
            have c2 : ∀ d os, (Go.Sort.grow (redrawn W6 d) os).cell? ⟨w.heap.size, 2, none⟩ = some (.int .i64 1) := cell_regrown ((hb6.cell (p := ⟨w.heap.size, 2, none⟩) hwo).trans p2)
            have c3 : ∀ d os, (Go.Sort.grow (redrawn W6 d) os).cell? ⟨w.heap.size, 3, none⟩ = some (.int .i64 op) := cell_regrown ((hb6.cell (p := ⟨w.heap.size, 3, none⟩) hwo).trans p3)
            have d2 : ∀ d os, (Go.Sort.grow (redrawn W6 d) os).cell? ⟨go, k * 4 + 2, none⟩ = some (.int .i64 x.p) := cell_regrown ((hb6.cell (p := ⟨go, k * 4 + 2, none⟩) hwr2).trans x2)
            have hq : ∀ d os, Calls Try.prog 14 #[.agg #[.int .i64 0, .int .i64 1, .int .i64 op, .int .i64 0], .agg #[.int .i64 0, .int .i64 0, .int .i64 x.p, .int .i64 0]] (Go.Sort.grow (redrawn W6 d) os) fun e w'' => e = .returned (.bool true) ∧ ∃ p : Regrown, w'' = Go.Sort.grow (redrawn W6 p.d) p.os := fun d os => by
              have h1 := rMeets1 0 op 0 0 x.p 0 (Go.Sort.grow (redrawn W6 d) os)
              rw [hme] at h1
              exact Calls.regrown_of h1
            have Y := hid (And.intro f0 (And.intro f1 (And.intro f2 (And.intro x0 (And.intro x2 (And.intro x3 (And.intro y1 y2)))))))
            clear f0 f1 f2 x0 x2 x3 p2 p3 y1 y2 hW6 hb6 hq6
            refine wp_region_quiet_below (by kernel_rfl) (by kernel_rfl) ?_
            have hwt : IntKind.i64.wrap 0 = 0 := by rw [IntKind.wrap_i64]; omega
            repeat (quiet_step (first | with_reducible exact hq _ _ | (rw [hwt]; with_reducible exact hq _ _)))
            refine wpQuiet_nil ?_
            intro _ hw'
            obtain ⟨⟨dq, osq⟩, hw''⟩ := hw'
            subst hw''
            clear hq c2 c3 d2
            go_wp2_with fail
            refine opaqueR _ ?_
            intro W7 hW7
            have hb7 : Below W6.heap.size W6 W7 := by rw [hW7]; exact below_regrown _ _ _
            have hb57 := HB6.out.trans (hb7.mono HB6.out.size)
            have x0 := (hb57.cell (p := ⟨go, k * 4, none⟩) hwr2).trans Y.out.2.2.2.1
            have x2 := (hb57.cell (p := ⟨go, k * 4 + 2, none⟩) hwr2).trans Y.out.2.2.2.2.1
            have x3 := (hb57.cell (p := ⟨go, k * 4 + 3, none⟩) hwr2).trans Y.out.2.2.2.2.2.1
            have y1 := (hb57.cell (p := ⟨w3.heap.size, 1, none⟩) hwy).trans Y.out.2.2.2.2.2.2.1
            have y2 := (hb57.cell (p := ⟨w3.heap.size, 2, none⟩) hwy).trans Y.out.2.2.2.2.2.2.2
            have hq7 := obOn HQ6.out hb7 z6
            have t0 := cellAt' hq7 0; have t1 := cellAt' hq7 1; have t2 := cellAt' hq7 2
            simp at t0 t1 t2
            have HB7 : Hid (Below W5.heap.size W5 W7) := hid (HWQ.out.trans (hb57.mono HWQ.out.size))
            have hfq1 : ¬ fq < 1 := by omega
            have hfq2 : ¬ x.n < fq := by omega
            clear hW7 hb7 hb57 hq7 hme
            rcases HWW.out with hw | ⟨hw1, hw2⟩
            · subst hw
              go_quiet (fail)
              go_wp2_with fail
              go_roundg (nf - (k + 1))
              case measure => omega
              case rel => exact ⟨k + 1, by omega, by omega, by go_num, hid (belowDrewN HB7.out _)⟩
            · by_cases hfn : fq = x.n
              · subst hfn
                clear hw1 hw2
                go_quiet (fail)
                go_wp2_with fail
                go_roundg (nf - (k + 1))
                case measure => omega
                case rel => exact ⟨k + 1, by omega, by omega, by go_num, hid (belowDrewN HB7.out _)⟩
              · subst hw2
                have hkn : ¬ (k : Int) + 1 < (nf : Int) := by have := HNF.out; omega
                have hfn2 : (fq == x.n) = false := by simpa using hfn
                go_quiet (fail)
                go_wp2_with fail
                go_roundg (nf - (k + 1))
                case measure => omega
                case rel => exact ⟨k + 1, by omega, by omega, by go_num, hid (belowDrewN HB7.out _)⟩
          · have hlkz : ¬ (k : Int) < (nf : Int) := by omega
            by_cases hc1 : 0 < left
            · by_cases hc2 : nf < no
              · obtain ⟨x, hx⟩ : ∃ x, bs[nf]? = some x := ⟨bs[nf]'(by rw [← HNO.out]; exact hc2), List.getElem?_eq_getElem (by rw [← HNO.out]; exact hc2)⟩
                obtain ⟨go, rfl, hgo, b0, b1, b2, b3⟩ := HSO.out nf x hx
                have hme := HFE.out hc1 x (by rw [← HNF.out]; exact hx)
                have hc2z : (nf : Int) < (no : Int) := by omega
                have x2 := (HWQ.out.cell (p := ⟨go, nf * 4 + 2, none⟩) hgo).trans b2
                have p2 := (HWQ.out.cell (p := ⟨w.heap.size, 2, none⟩) hzo).trans (cellAt' HO5.out 2)
                have p3 := (HWQ.out.cell (p := ⟨w.heap.size, 3, none⟩) hzo).trans (cellAt' HO5.out 3)
                simp at p2 p3
                clear hx b0 b1 b2 b3
                go_wp2_with fail
                have c1 : ∀ d os, (Go.Sort.grow (redrawn wr d) os).cell? ⟨w3.heap.size, 1, none⟩ = some (.slice af nf cf) := cell_regrown y1
                have c2 : ∀ d os, (Go.Sort.grow (redrawn wr d) os).cell? ⟨w.heap.size, 2, none⟩ = some (.int .i64 1) := cell_regrown p2
                have c3 : ∀ d os, (Go.Sort.grow (redrawn wr d) os).cell? ⟨w.heap.size, 3, none⟩ = some (.int .i64 op) := cell_regrown p3
                have d2 : ∀ d os, (Go.Sort.grow (redrawn wr d) os).cell? ⟨go, nf * 4 + 2, none⟩ = some (.int .i64 x.p) := cell_regrown x2
                have hq : ∀ d os, Calls Try.prog 14 #[.agg #[.int .i64 0, .int .i64 1, .int .i64 op, .int .i64 0], .agg #[.int .i64 0, .int .i64 0, .int .i64 x.p, .int .i64 0]] (Go.Sort.grow (redrawn wr d) os) fun e w'' => e = .returned (.bool false) ∧ ∃ p : Regrown, w'' = Go.Sort.grow (redrawn wr p.d) p.os := fun d os => by
                  have h1 := rMeets1 0 op 0 0 x.p 0 (Go.Sort.grow (redrawn wr d) os)
                  rw [hme] at h1
                  exact Calls.regrown_of h1
                have hwt : IntKind.i64.wrap 0 = 0 := by rw [IntKind.wrap_i64]; omega
                clear x2 p2 p3 hme
                refine wp_region_quiet_below (by kernel_rfl) (by kernel_rfl) ?_
                repeat (quiet_step (first | with_reducible exact hq _ _ | (rw [hwt]; with_reducible exact hq _ _)))
                refine wpQuiet_nil ?_
                intro _ hw'
                obtain ⟨⟨dq, osq⟩, hw''⟩ := hw'
                subst hw''
                clear hq c1 c2 c3 d2
                go_wp2_with fail
                refine opaqueR _ ?_
                intro W8 hW8
                have hb8 : Below W5.heap.size W5 W8 := by rw [hW8]; exact bel_regrown HWQ.out dq osq
                have r0 : ∀ d os, (Go.Sort.grow (redrawn W8 d) os).cell? ⟨w3.heap.size, 0, none⟩ = some (.int .i64 0) := cell_regrown ((hb8.cell (p := ⟨w3.heap.size, 0, none⟩) hzr).trans (by simpa using cellAt' HY.out 0))
                have r1 : ∀ d os, (Go.Sort.grow (redrawn W8 d) os).cell? ⟨w3.heap.size, 1, none⟩ = some (.slice af nf cf) := cell_regrown ((hb8.cell (p := ⟨w3.heap.size, 1, none⟩) hzr).trans (by simpa using cellAt' HY.out 1))
                have r2 : ∀ d os, (Go.Sort.grow (redrawn W8 d) os).cell? ⟨w3.heap.size, 2, none⟩ = some (.int .i64 left) := cell_regrown ((hb8.cell (p := ⟨w3.heap.size, 2, none⟩) hzr).trans (by simpa using cellAt' HY.out 2))
                have r4 : ∀ d os, (Go.Sort.grow (redrawn W8 d) os).cell? ⟨w.heap.size, 4, none⟩ = some (.int .i64 oq) := cell_regrown ((hb8.cell (p := ⟨w.heap.size, 4, none⟩) hzo).trans (by simpa using cellAt' HO5.out 4))
                have hqA : ∀ d os, Calls Try.prog 5 #[] (Go.Sort.grow (redrawn W8 d) os) fun e w'' => e = .returned (.bool true) ∧ ∃ p : Regrown, w'' = Go.Sort.grow (redrawn W8 p.d) p.os := fun d os => Calls.regrown_of (cAlive _)
                have hqF : ∀ d os, Calls Try.prog 10 #[.agg #[.int .i64 0, .slice af nf cf, .int .i64 left]] (Go.Sort.grow (redrawn W8 d) os) fun e w'' => e = .returned (.int .i64 F) ∧ ∃ p : Regrown, w'' = Go.Sort.grow (redrawn W8 p.d) p.os := fun d os => by
                  have h1 := cFilled (HOF5.out.on (bel_regrown hb8 d os)) HF8.out HTK.out 0 left
                  rw [← HFe.out] at h1
                  exact Calls.regrown_of h1
                have HB8 := hid hb8
                clear hW8 hb8 y1 y2
                refine wp_region_quiet_below (by kernel_rfl) (by kernel_rfl) ?_
                repeat (quiet_step (first | with_reducible exact hqA _ _ | with_reducible exact hqF _ _))
                refine wpQuiet_nil ?_
                intro _ hw'
                obtain ⟨⟨dq8, osq8⟩, hw''⟩ := hw'
                subst hw''
                clear hqA hqF r0 r1 r2 r4
                go_wp2_with fail
                go_ret
                exact ⟨ret_bool (by simp; rw [IntKind.wrap_i64]; omega), HW5.out.trans ((bel_regrown HB8.out dq8 osq8).mono HW5.out.size)⟩
              · have hc2z : ¬ (nf : Int) < (no : Int) := by omega
                go_wp2_with fail
                refine opaqueR _ ?_
                intro W8 hW8
                have hb8 : Below W5.heap.size W5 W8 := by rw [hW8]; exact HWQ.out
                have r0 : ∀ d os, (Go.Sort.grow (redrawn W8 d) os).cell? ⟨w3.heap.size, 0, none⟩ = some (.int .i64 0) := cell_regrown ((hb8.cell (p := ⟨w3.heap.size, 0, none⟩) hzr).trans (by simpa using cellAt' HY.out 0))
                have r1 : ∀ d os, (Go.Sort.grow (redrawn W8 d) os).cell? ⟨w3.heap.size, 1, none⟩ = some (.slice af nf cf) := cell_regrown ((hb8.cell (p := ⟨w3.heap.size, 1, none⟩) hzr).trans (by simpa using cellAt' HY.out 1))
                have r2 : ∀ d os, (Go.Sort.grow (redrawn W8 d) os).cell? ⟨w3.heap.size, 2, none⟩ = some (.int .i64 left) := cell_regrown ((hb8.cell (p := ⟨w3.heap.size, 2, none⟩) hzr).trans (by simpa using cellAt' HY.out 2))
                have r4 : ∀ d os, (Go.Sort.grow (redrawn W8 d) os).cell? ⟨w.heap.size, 4, none⟩ = some (.int .i64 oq) := cell_regrown ((hb8.cell (p := ⟨w.heap.size, 4, none⟩) hzo).trans (by simpa using cellAt' HO5.out 4))
                have hqA : ∀ d os, Calls Try.prog 5 #[] (Go.Sort.grow (redrawn W8 d) os) fun e w'' => e = .returned (.bool true) ∧ ∃ p : Regrown, w'' = Go.Sort.grow (redrawn W8 p.d) p.os := fun d os => Calls.regrown_of (cAlive _)
                have hqF : ∀ d os, Calls Try.prog 10 #[.agg #[.int .i64 0, .slice af nf cf, .int .i64 left]] (Go.Sort.grow (redrawn W8 d) os) fun e w'' => e = .returned (.int .i64 F) ∧ ∃ p : Regrown, w'' = Go.Sort.grow (redrawn W8 p.d) p.os := fun d os => by
                  have h1 := cFilled (HOF5.out.on (bel_regrown hb8 d os)) HF8.out HTK.out 0 left
                  rw [← HFe.out] at h1
                  exact Calls.regrown_of h1
                have HB8 := hid hb8
                clear hW8 hb8 y1 y2
                refine wp_region_quiet_below (by kernel_rfl) (by kernel_rfl) ?_
                repeat (quiet_step (first | with_reducible exact hqA _ _ | with_reducible exact hqF _ _))
                refine wpQuiet_nil ?_
                intro _ hw'
                obtain ⟨⟨dq8, osq8⟩, hw''⟩ := hw'
                subst hw''
                clear hqA hqF r0 r1 r2 r4
                go_wp2_with fail
                go_ret
                exact ⟨ret_bool (by simp; rw [IntKind.wrap_i64]; omega), HW5.out.trans ((bel_regrown HB8.out dq8 osq8).mono HW5.out.size)⟩
            · have hc1z : ¬ (0 : Int) < left := by omega
              go_wp2_with fail
              refine opaqueR _ ?_
              intro W8 hW8
              have hb8 : Below W5.heap.size W5 W8 := by rw [hW8]; exact HWQ.out
              have r0 : ∀ d os, (Go.Sort.grow (redrawn W8 d) os).cell? ⟨w3.heap.size, 0, none⟩ = some (.int .i64 0) := cell_regrown ((hb8.cell (p := ⟨w3.heap.size, 0, none⟩) hzr).trans (by simpa using cellAt' HY.out 0))
              have r1 : ∀ d os, (Go.Sort.grow (redrawn W8 d) os).cell? ⟨w3.heap.size, 1, none⟩ = some (.slice af nf cf) := cell_regrown ((hb8.cell (p := ⟨w3.heap.size, 1, none⟩) hzr).trans (by simpa using cellAt' HY.out 1))
              have r2 : ∀ d os, (Go.Sort.grow (redrawn W8 d) os).cell? ⟨w3.heap.size, 2, none⟩ = some (.int .i64 left) := cell_regrown ((hb8.cell (p := ⟨w3.heap.size, 2, none⟩) hzr).trans (by simpa using cellAt' HY.out 2))
              have r4 : ∀ d os, (Go.Sort.grow (redrawn W8 d) os).cell? ⟨w.heap.size, 4, none⟩ = some (.int .i64 oq) := cell_regrown ((hb8.cell (p := ⟨w.heap.size, 4, none⟩) hzo).trans (by simpa using cellAt' HO5.out 4))
              have hqA : ∀ d os, Calls Try.prog 5 #[] (Go.Sort.grow (redrawn W8 d) os) fun e w'' => e = .returned (.bool true) ∧ ∃ p : Regrown, w'' = Go.Sort.grow (redrawn W8 p.d) p.os := fun d os => Calls.regrown_of (cAlive _)
              have hqF : ∀ d os, Calls Try.prog 10 #[.agg #[.int .i64 0, .slice af nf cf, .int .i64 left]] (Go.Sort.grow (redrawn W8 d) os) fun e w'' => e = .returned (.int .i64 F) ∧ ∃ p : Regrown, w'' = Go.Sort.grow (redrawn W8 p.d) p.os := fun d os => by
                have h1 := cFilled (HOF5.out.on (bel_regrown hb8 d os)) HF8.out HTK.out 0 left
                rw [← HFe.out] at h1
                exact Calls.regrown_of h1
              have HB8 := hid hb8
              clear hW8 hb8 y1 y2
              refine wp_region_quiet_below (by kernel_rfl) (by kernel_rfl) ?_
              repeat (quiet_step (first | with_reducible exact hqA _ _ | with_reducible exact hqF _ _))
              refine wpQuiet_nil ?_
              intro _ hw'
              obtain ⟨⟨dq8, osq8⟩, hw''⟩ := hw'
              subst hw''
              clear hqA hqF r0 r1 r2 r4
              go_wp2_with fail
              go_ret
              exact ⟨ret_bool (by simp; rw [IntKind.wrap_i64]; omega), HW5.out.trans ((bel_regrown HB8.out dq8 osq8).mono HW5.out.size)⟩
      · -- an error
        have he2 : (err == 0) = false := by simpa using he
        go_wp2_with fail
        go_at_call 5
        refine (cAlive _).mono ?_
        rintro e w9 ⟨rfl, hB9⟩
        have HB9 := hid hB9
        clear hB9
        go_wp2_with fail
        go_ret
        exact ⟨rfl, (HQ0.out.1.trans (HW3.out.mono (by rw [HE.out]; exact HQ0.out.1.size))).trans ((((Below.refl _ w3).alloc (Nat.le_refl _) _).trans (HB9.out.mono (by simp))).mono (by have := HW3.out.size; have := HE.out; have := HQ0.out.2.2; omega))⟩
end Go.Proofs.Ytolbgmihphonbaa
