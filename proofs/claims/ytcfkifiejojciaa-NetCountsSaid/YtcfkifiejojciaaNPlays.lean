/- The walk of the law NetPlays. -/
import Derived.Test.YtcfkifiejojciaaNAlive
namespace Go.Proofs.Ytcfkifiejojciaa
set_option linter.unusedVariables false
open Go.RowKit
open Go.Lib (hid)

theorem quietS {P : Program} {f : FuncId} {args : Array Value} {w : World} {n : Nat} {v : Value} (h : Calls P f args (w.drewN n) fun e w' => e = .returned v ∧ w.drewN n = w') : Calls P f args (w.drewN n) fun e w'' => e = .returned v ∧ ∃ m, w'' = w.drewN m :=
  h.mono fun _ _ ⟨he, hm⟩ => ⟨he, n, hm.symm⟩
set_option maxHeartbeats 6400000 in
set_option maxRecDepth 100000 in
theorem wPlays {w : World} {v : Value} {xs : List Av} (room : Int) (h : SlA w w.heap.size v xs) : Calls Try.prog 3 #[.int .i64 room, v] w fun e w' => e = .returned (.bool true) ∧ Below w.heap.size w w' := by
  have HC := hid (cFits h)
  have kc := fun (w : World) (C : Array Value) (n c : Nat) => Lib.run_convert_bytes_const (P := Try.prog) w 40 5 C n c Try.underlying40 Try.underlying5
  obtain ⟨b, o, cap, a, rfl, hcap, ha, hr, hlt⟩ := h
  obtain ⟨n, hn⟩ : ∃ n, n = xs.length := ⟨_, rfl⟩
  rw [← hn] at hcap ha hlt HC ⊢
  have hncap : (n : Int) ≤ (cap : Int) := by omega
  have HN := hid hn
  have HR := hid hr
  have HA := hid (And.intro ha hlt)
  clear hr hn ha hlt hcap
  go_enter Try.func3, Try.ntmps3
  go_wp2_with fail
  go_at_call 5
  refine HC.out.mono ?_
  rintro e w1 ⟨r, rfl, hg, rfl⟩
  clear HC
  rcases r with _ | _
  · clear hg
    go_wp2_with fail
    go_at_call 6
    refine (cAlive _).mono ?_
    rintro e w1 ⟨rfl, hB⟩
    go_wp2_with fail
    go_ret
    exact ⟨rfl, hB⟩
  · have HF := hid (hg rfl)
    have hn80 : n ≤ 80 := by have h1 := HF.out.1; have h2 := HN.out; omega
    clear hg
    rcases hroom : roomB room with _ | _
    · have HR := hid hroom
      have hq := hid (rRight room w)
      rw [hroom] at hq
      clear hroom
      go_wp2_with fail
      go_at_call 7
      refine (cNew_no room HR.out w).mono ?_
      rintro e w1 ⟨rfl, rfl⟩
      go_wp2_with fail
      go_at_call 8
      refine hq.out.mono ?_
      rintro e w1 ⟨rfl, rfl⟩
      go_wp2_with fail
      go_at_call 6
      refine (cAlive _).mono ?_
      rintro e w1 ⟨rfl, hB⟩
      go_wp2_with fail
      go_ret
      exact ⟨rfl, hB⟩
    have HRM := hid hroom
    clear hroom
    go_wp2_with fail
    go_at_call 7
    refine (cNew_yes room HRM.out w).mono ?_
    rintro e w1 ⟨rfl, hD, hB1⟩
    have hb2 : Below w1.heap.size w1 (w1.alloc (.cells #[.int .i64 room, .slice none 0 0, .int .i64 0] 33)) := (Below.refl _ w1).alloc (Nat.le_refl _) _
    have HT0 : Two (w1.alloc (.cells #[.int .i64 room, .slice none 0 0, .int .i64 0] 33)) w.heap.size w.heap.size w1.heap.size room 0 [] := by
      refine ⟨.slice none 0 0, .slice none 0 0, [], [], ⟨obOn hD hb2 (Array.getElem?_eq_some_iff.1 hD).1, Rw.nil _ _, Nat.le_refl _⟩, ⟨heap_alloc_new w1 _, Rw.nil _ _, hB1.size⟩, rfl, rfl, (fun k hk => by cases hk), ?_, (fun l hl => by simp at hl), by omega⟩
      have := HRM.out; unfold roomB at this; simp at this; simp; omega
    obtain ⟨p, HT, hp⟩ : ∃ p, Hid (Two (w1.alloc (.cells #[.int .i64 room, .slice none 0 0, .int .i64 0] 33)) w.heap.size p w1.heap.size room 0 [] ∧ Below w.heap.size w (w1.alloc (.cells #[.int .i64 room, .slice none 0 0, .int .i64 0] 33))) ∧ p = w.heap.size := ⟨_, hid ⟨HT0, hB1.trans (hb2.mono hB1.size)⟩, rfl⟩
    rw [← hp]
    clear hp HT0 hD hB1 hb2
    obtain ⟨q, hq⟩ : ∃ q, q = w1.heap.size := ⟨_, rfl⟩
    rw [← hq] at HT
    have hRt := rRight room w1
    rw [HRM.out] at hRt
    have HRt := hid hRt
    clear hRt
    go_wp2_with fail
    go_at_call 8
    refine HRt.out.mono ?_
    rintro e w2 ⟨rfl, rfl⟩
    go_wp2_with fail
    rw [← hq]
    clear hq
    go_loopw [10] (fun i wr => ∃ (j : Nat) (lost : Int) (ls : List (List UInt8)), j ≤ n ∧ i = .int .i64 j ∧ Hid (Two wr w.heap.size p q room lost ls ∧ Below w.heap.size w wr ∧ lost ≤ szA (xs.take j))) (fun i _ => n - (intOf i).toNat)
    case atStart => exact ⟨0, 0, [], Nat.zero_le _, rfl, hid ⟨HT.out.1, HT.out.2, by simp [szA]⟩⟩
    case round =>
      obtain ⟨j, lost, ls, hj, rfl, HI⟩ := hrel
      clear HT
      by_cases hlt : j < n
      · obtain ⟨x, hx⟩ : ∃ x, xs[j]? = some x := ⟨xs[j]'(by rw [← HN.out]; exact hlt), List.getElem?_eq_getElem (by rw [← HN.out]; exact hlt)⟩
        obtain ⟨k0, k1, k2, hs, hk8, _⟩ := HR.out j x hx
        obtain ⟨rfl, hbl⟩ : a = some ⟨b, o, none⟩ ∧ b < w.heap.size := ⟨HA.out.1 (by omega), HA.out.2 (by omega)⟩
        have hnx := szA_next hx
        have hall := szA_le xs (j + 1)
        have hqs := szQ_ge x.qs
        have hqm : ∀ y ∈ x.qs, y.2.length ≤ szQ x.qs := fun y hy => szQ_mem hy
        have hlt2 : (j : Int) < (n : Int) := by omega
        have hB := HI.out.2.1
        have d0 := (hB.cell (p := ⟨b, o + j * 3, none⟩) hbl).trans k0
        have d1 := (hB.cell (p := ⟨b, o + j * 3 + 1, none⟩) hbl).trans k1
        have d2 := (hB.cell (p := ⟨b, o + j * 3 + 2, none⟩) hbl).trans k2
        have hsw : Sr wr w.heap.size x.s.v x.qs := hs.on hB
        have hsb : 0 < x.qs.length → ∀ k, x.s.v.ownBlock = some k → k < w.heap.size := fun h0 k hk => by
          obtain ⟨bq, oq, cq, aq, e1, _, _, e2, _, e3, _⟩ := hs
          rw [e1, e2 h0] at hk
          cases hk
          exact e3 h0
        have HX := hid (And.intro hsw (And.intro hsb (And.intro hk8 (And.intro hnx (And.intro hall (And.intro hqs hqm))))))
        have HST := hid (cStep (x := x) HI.out.1 hB.size hsw hsb (fun y hy => by have h1 := hqm y hy; have h2 := HF.out.2; omega) (by have h2 := HF.out.2; omega) HRM.out (by have h1 := HI.out.2.2; have h2 := szA_le xs j; have h3 := HF.out.2; omega) hk8)
        clear hs hk8 hnx hall hx k0 k1 k2 hqs hqm hB hsw hsb hbl
        go_wp2_with fail
        go_at_call 9
        refine HST.out.mono ?_
        rintro e w4 ⟨rfl, lost', ls', hT', hl', hB4⟩
        have HI4 := hid (show Two w4 w.heap.size p q room lost' ls' ∧ Below w.heap.size w w4 ∧ lost' ≤ szA (xs.take (j + 1)) from ⟨hT', HI.out.2.1.trans hB4, by have h1 := HX.out.2.2.2.1; have h2 := HI.out.2.2; have h3 := HX.out.2.2.2.2.2.1; omega⟩)
        obtain ⟨v4, u4, ps4, us4, hP, hQ, hbp, hbu, hap, hrm, hgood, hl0⟩ := hT'
        have HP := hid hP
        have HQ := hid hQ
        have hB4' : w.heap.size ≤ w4.heap.size := HI4.out.2.1.size
        have hrm2 := HRM.out
        unfold roomB at hrm2
        simp at hrm2
        have hpl : ps4.length = ls'.length := by rw [← hbp, bs_len]
        have hul : us4.length = ls'.length := by rw [← hbu, bs_len]
        have HCA := hid (cAll (w := w4.drew) hP hB4' (by omega))
        obtain ⟨au, nu, cu, e1, hnu⟩ := hQ.2.1.asSlice
        rw [e1] at hQ HQ
        obtain ⟨hltq, m0, m1, m2, _, _, _⟩ := hQ.1.cells
        have HLS := hid (And.intro (And.intro hpl hul) (And.intro hbp (And.intro hbu (And.intro hrm hrm2.2))))
        have hnu2 : nu = ls'.length := by omega
        have HNU := hid hnu2
        clear d0 d1 d2 hl' hB4 hP hQ hbp hbu hap hrm hgood hl0 hpl hul hrm2 e1 hnu hnu2 HST HI HX
        go_wp2_with fail
        go_region_law (first
          | (go_simp; go_at_call 11; (
              refine HCA.out.mono ?_
              rintro e w5 ⟨v5, rfl, hR5, _, hB5⟩
              have hb5 : Below w4.heap.size w4 w5 := (belowDrew (Below.refl _ w4)).trans hB5
              have n1 := (hb5.cell (p := ⟨q, 1, none⟩) hltq).trans m1
              have HB5 := hid hb5
              have HSA := hid (rSame (w := w5) hR5.sr (HQ.out.2.1.on hb5).sr (by have h1 := HLS.out.1.1; have h2 := HLS.out.2.2.2.1; have h3 := HLS.out.2.2.2.2; omega) (by have h1 := HLS.out.1.2; have h2 := HLS.out.2.2.2.1; have h3 := HLS.out.2.2.2.2; omega))
              obtain ⟨a5, n5, c5, rfl, hn5⟩ := hR5.asSlice
              clear hR5 hB5 hb5 hn5))
          | (go_simp; go_at_call 10; (
              refine HSA.out.mono ?_
              rintro e w6 ⟨rfl, hB6⟩
              have hb6 : Below w4.heap.size w4 w6 := HB5.out.trans (hB6.mono HB5.out.size)
              have HB6 := hid hb6
              have hT6 := HI4.out.1.on hb6
              have HI6 := hid (show Two w6 w.heap.size p q room lost' ls' ∧ Below w.heap.size w w6 ∧ lost' ≤ szA (xs.take (j + 1)) from ⟨hT6, HI4.out.2.1.trans (hb6.mono HI4.out.2.1.size), HI4.out.2.2⟩)
              have hsame : (bs ps4 == bs us4) = true := by rw [HLS.out.2.1, HLS.out.2.2.1]; exact beq_self_eq_true _
              rw [hsame]
              have o1 := (hb6.cell (p := ⟨q, 1, none⟩) hltq).trans m1
              have o2 := (hb6.cell (p := ⟨q, 2, none⟩) hltq).trans m2
              have hLo := fun m => cLost (w := w6.drewN m) (HP.out.on hb6).1
              have hLe : ∀ m, Calls Try.prog 13 #[ptr p] (w6.drewN m) fun e w' => e = .returned (.int .i64 nu) ∧ w6.drewN m = w' := fun m => by
                have := cLen (w := w6.drewN m) (HP.out.on hb6).1 (HP.out.on hb6).2.1
                rw [HNU.out, ← HLS.out.1.1]
                exact this
              have HLo := hid hLo
              have HLe := hid hLe
              clear hB6 hb6 hT6 hsame hLo hLe n1)))
        all_goals (
          go_wp2_with fail
          go_quiet ((first | (go_at_call 12; with_reducible exact quietS (HLo.out _)) | (go_at_call 13; with_reducible exact quietS (HLe.out _)))))
        all_goals (
          go_wp2
          go_roundw
          case rel => exact ⟨j + 1, lost', ls', by omega, by go_num, hid ⟨HI6.out.1.on (belowDrewN (Below.refl _ _) _), belowDrewN HI6.out.2.1 _, HI6.out.2.2⟩⟩
          case measure => simp [RowKit.intOf]; omega)
      · have hlt2 : ¬ (j : Int) < (n : Int) := by omega
        have HB := hid HI.out.2.1
        obtain ⟨v4, u4, ps4, us4, hP, _⟩ := HI.out.1
        have HAM := hid (cAt_no hP.1 hP.2.1 (-1) (.inl (by omega)))
        have HAL := hid (cAt_no hP.1 hP.2.1 ps4.length (.inr (Int.le_refl _)))
        have HLE := hid (cLen hP.1 hP.2.1)
        clear HI HA HR HN HF hncap hn80 hP
        go_wp2_with fail
        go_at_call 14
        refine HAM.out.mono ?_
        rintro e w5 ⟨rfl, rfl⟩
        go_wp2_with fail
        go_at_call 13
        refine HLE.out.mono ?_
        rintro e w5 ⟨rfl, rfl⟩
        go_wp2_with fail
        go_at_call 14
        refine HAL.out.mono ?_
        rintro e w5 ⟨rfl, rfl⟩
        go_wp2_with (first
          | (go_at_call 15; refine (cTake0 _).mono ?_; rintro e w9 ⟨rfl, rfl⟩)
          | (go_at_call 14; refine (cAt0 _).mono ?_; rintro e w9 ⟨rfl, rfl⟩)
          | (go_at_call 16; refine (cDouble0 _).mono ?_; rintro e w9 ⟨rfl, rfl⟩)
          | (go_at_call 17; refine (cSend0 _ _).mono ?_; rintro e w9 ⟨rfl, rfl⟩)
          | (go_at_call 13; refine (cLen0 _).mono ?_; rintro e w9 ⟨rfl, rfl⟩)
          | (go_at_call 12; refine (cLost0 _).mono ?_; rintro e w9 ⟨rfl, rfl⟩)
          | (go_at_call 6; refine (cAlive _).mono ?_; rintro e w6 ⟨rfl, hB6⟩; have HB6 := hid (HB.out.trans (hB6.mono HB.out.size)); clear hB6))
        go_ret
        exact ⟨rfl, (HB6.out.alloc HB6.out.size _).alloc (Nat.le_trans HB6.out.size (by simp)) _⟩
end Go.Proofs.Ytcfkifiejojciaa
