/- The walk of the law NetCounts. -/
import Derived.Test.YtcfkifiejojciaaNCount
import Derived.Deep.Cut
import Derived.Deep.CutRange
namespace Go.Proofs.Ytcfkifiejojciaa
set_option linter.unusedVariables false
open Go.RowKit
open Go.Lib (hid)

/-- What stands between the rounds of the law NetCounts. -/
def CInv (w wr : World) (p : Nat) (vi vo : Value) (n : Nat) : Prop := ∃ (lost : Int) (v : Value) (ps is os : Ps), C3 wr w.heap.size p 40 lost v ps vi is vo os ∧ (bs is).Perm (bs os ++ bs ps) ∧ ps.length ≤ 40 ∧ (∀ l ∈ bs ps, l.length ≤ 3000) ∧ 0 ≤ lost ∧ lost ≤ n ∧ is.length ≤ n ∧ Below w.heap.size w wr
theorem quietS2 {P : Program} {f : FuncId} {args : Array Value} {w : World} {n : Nat} {v : Value} (h : Calls P f args (w.drewN n) fun e w' => e = .returned v ∧ ∃ m, w' = (w.drewN n).drewN m) : Calls P f args (w.drewN n) fun e w'' => e = .returned v ∧ ∃ m, w'' = w.drewN m := Calls.quiet_of h

set_option maxHeartbeats 6400000 in
set_option maxRecDepth 100000 in
theorem wCounts {w : World} {v : Value} {xs : List Av} (h : SlA w w.heap.size v xs) : Calls Try.prog 4 #[v] w fun e w' => e = .returned (.bool true) ∧ Below w.heap.size w w' := by
  have HC := hid (cFits h)
  obtain ⟨b, o, cap, a, rfl, hcap, ha, hr, hlt⟩ := h
  obtain ⟨n, hn⟩ : ∃ n, n = xs.length := ⟨_, rfl⟩
  rw [← hn] at hcap ha hlt HC ⊢
  have hncap : (n : Int) ≤ (cap : Int) := by omega
  have HN := hid hn
  have HR := hid hr
  have HA := hid (And.intro ha hlt)
  clear hr hn ha hlt hcap
  go_enter Try.func4, Try.ntmps4
  go_wp2_with fail
  go_at_call 5
  refine HC.out.mono ?_
  rintro e w1 ⟨r, rfl, hg, rfl⟩
  clear HC
  rcases r with _ | _
  · clear hg
    go_wp2_with fail
    go_at_call 6
    refine (cAlive _).mono ?_
    rintro e w1 ⟨rfl, hB⟩
    go_wp2_with fail
    go_ret
    exact ⟨rfl, hB⟩
  have HF := hid (hg rfl)
  have hn80 : n ≤ 80 := by have h1 := HF.out.1; have h2 := HN.out; omega
  clear hg
  go_wp2_with fail
  go_at_call 7
  refine (cNew_yes 40 (by decide) w).mono ?_
  rintro e w1 ⟨rfl, hD, hB1⟩
  have HI0 : Hid (CInv w w1 w.heap.size (.slice none 0 0) (.slice none 0 0) (szA (xs.take 0) + 0)) := hid ⟨0, .slice none 0 0, [], [], [], ⟨⟨hD, Rw.nil _ _, Nat.le_refl _⟩, Rw.nil _ _, Rw.nil _ _, (fun k hk => by cases hk), (fun k hk => by cases hk), (fun k hk => by cases hk)⟩, List.Perm.refl _, by simp, (fun l hl => by simp [bs] at hl), Int.le_refl _, by simp [szA], by simp, hB1⟩
  clear hD hB1
  obtain ⟨p, hp⟩ : ∃ p, p = w.heap.size := ⟨_, rfl⟩
  rw [← hp]
  have HI1 : Hid (CInv w w1 p (.slice none 0 0) (.slice none 0 0) (szA (xs.take 0) + 0)) := by rw [hp]; exact HI0
  clear hp HI0
  go_wp2_with fail
  go_loopw [6, 7, 8] (fun si so i wr => ∃ (j : Nat) (ia oa : Option Addr) (inn on ic oc : Nat), j ≤ n ∧ i = .int .i64 j ∧ si = .slice ia inn ic ∧ so = .slice oa on oc ∧ Hid (CInv w wr p (.slice ia inn ic) (.slice oa on oc) (szA (xs.take j) + j))) (fun _ _ i _ => n - (intOf i).toNat)
  case atStart => exact ⟨0, none, none, 0, 0, 0, 0, Nat.zero_le _, rfl, rfl, rfl, HI1⟩
  case round =>
    clear HI1
    obtain ⟨j, ia, oa, inn, on, ic, oc, hj, rfl, rfl, rfl, HI⟩ := hrel
    by_cases hlt : j < n
    · obtain ⟨x, hx⟩ : ∃ x, xs[j]? = some x := ⟨xs[j]'(by rw [← HN.out]; exact hlt), List.getElem?_eq_getElem (by rw [← HN.out]; exact hlt)⟩
      obtain ⟨k0, k1, k2, hs, hk8, _⟩ := HR.out j x hx
      obtain ⟨rfl, hbl⟩ : a = some ⟨b, o, none⟩ ∧ b < w.heap.size := ⟨HA.out.1 (by omega), HA.out.2 (by omega)⟩
      have hnx := szA_next hx
      have hall := szA_le xs (j + 1)
      have hqs := szQ_ge x.qs
      have hqm : ∀ y ∈ x.qs, y.2.length ≤ szQ x.qs := fun y hy => szQ_mem hy
      have hlt2 : (j : Int) < (n : Int) := by omega
      obtain ⟨lost, v, ps, is, os, h3, hperm, hpl, hpg, hl0, hln, hin, hB⟩ := HI.out
      have d0 := (hB.cell (p := ⟨b, o + j * 3, none⟩) hbl).trans k0
      have d1 := (hB.cell (p := ⟨b, o + j * 3 + 1, none⟩) hbl).trans k1
      have d2 := (hB.cell (p := ⟨b, o + j * 3 + 2, none⟩) hbl).trans k2
      have hsw : Sr wr w.heap.size x.s.v x.qs := hs.on hB
      have hsb : 0 < x.qs.length → ∀ k, x.s.v.ownBlock = some k → k < w.heap.size := fun h0 k hk => by
        obtain ⟨bq, oq, cq, aq, e1, _, _, e2, _, e3, _⟩ := hs
        rw [e1, e2 h0] at hk
        cases hk
        exact e3 h0
      have HX := hid (And.intro hsw (And.intro hsb (And.intro hk8 (And.intro hnx (And.intro hall (And.intro hqs hqm))))))
      have H3 := hid h3
      have HP := hid (And.intro hperm (And.intro hpl (And.intro hpg (And.intro hl0 (And.intro hln (And.intro hin hB))))))
      obtain ⟨k, ⟨sa, sn, sc⟩, qs, z⟩ := x
      dsimp only at d0 d1 d2 HX hk8
      clear hs hnx hall hx k0 k1 k2 hqs hqm hsw hsb hbl h3 hperm hpl hpg hl0 hln hin hB HI
      go_upto_region 12 with fail
      have hb1 := (Below.refl _ wr).alloc (Nat.le_refl _) (.cells #[.int .u8 k, .slice sa sn sc, .int .i64 z] 36)
      have hbx : (wr.alloc (.cells #[.int .u8 k, .slice sa sn sc, .int .i64 z] 36)).heap[wr.heap.size]? = some (.cells #[.int .u8 k, .slice sa sn sc, .int .i64 z] 36) := heap_alloc_new wr _
      obtain ⟨W1, hW1⟩ : ∃ W, W = wr.alloc (.cells #[.int .u8 k, .slice sa sn sc, .int .i64 z] 36) := ⟨_, rfl⟩
      rw [← hW1] at hb1 hbx ⊢
      have H31 := hid (H3.out.on hb1)
      have HX1 : Hid (Sr W1 w.heap.size (.slice sa sn sc) qs) := hid (HX.out.1.on hb1)
      have HBX := hid hbx
      have HBK : Hid (¬ Nb p v wr.heap.size) := hid (H31.out.net.box hbx (by decide) (by decide))
      have HBW : Hid (w.heap.size ≤ wr.heap.size ∧ wr.heap.size ≤ W1.heap.size ∧ Below w.heap.size w W1) := hid ⟨HP.out.2.2.2.2.2.2.size, hb1.size, HP.out.2.2.2.2.2.2.trans (hb1.mono HP.out.2.2.2.2.2.2.size)⟩
      have hsn : sn = qs.length := by
        obtain ⟨_, _, e1, _⟩ := HX1.out.any
        injection e1
      have hsc : qs.length ≤ sc := by
        obtain ⟨_, _, e1, h2, _⟩ := HX1.out.any
        injection e1 with _ _ e3
        omega
      have HSN := hid (And.intro hsn hsc)
      have HNUM : Hid (szA (xs.take (j + 1)) ≤ 3000 ∧ szA (xs.take (j + 1)) = szA (xs.take j) + szQ qs ∧ qs.length ≤ szQ qs ∧ j ≤ 80) := hid ⟨by have h1 := HX.out.2.2.2.2.1; have h2 := HF.out.2; omega, HX.out.2.2.2.1, HX.out.2.2.2.2.2.1, by omega⟩
      have b0 : W1.cell? ⟨wr.heap.size, 0, none⟩ = some (.int .u8 k) := cellAt' hbx 0
      have b1 : W1.cell? ⟨wr.heap.size, 1, none⟩ = some (.slice sa sn sc) := cellAt' hbx 1
      have b2 : W1.cell? ⟨wr.heap.size, 2, none⟩ = some (.int .i64 z) := cellAt' hbx 2
      clear hb1 hbx hW1 H3 hsn hsc d0 d1 d2
      have h5 : k % 5 = 0 ∨ k % 5 = 1 ∨ k % 5 = 2 ∨ k % 5 = 3 ∨ k % 5 = 4 := by omega
      rcases h5 with hk | hk | hk | hk | hk
      · have hk1 : (k : Int) % 5 = 0 := by omega
        have hk2 : (k : Int).tmod 5 = 0 := by rw [Int.tmod_eq_emod_of_nonneg (by omega)]; omega
        clear hk
        go_wp2_with fail
        go_at_call 17
        refine (cSend H31.out.net (Nat.le_trans HBW.out.1 HBW.out.2.1) (by decide) (by have := HP.out.2.1; omega) HX1.out (by have h1 := HNUM.out; omega) (fun y hy => by have h1 := HX.out.2.2.2.2.2.2 y hy; have h2 := HNUM.out; omega) HP.out.2.2.2.1 (by have h1 := HP.out.2.2.2.2.1; have h2 := HNUM.out; omega) (fun h0 kk hk h => by have h1 := HX.out.2.1 h0 kk hk; have h2 := (H31.out.net.nb (by decide) kk h).1; omega)).mono ?_
        rintro e w2 ⟨rfl, hL⟩
        obtain ⟨v', ps', h3', hbs', ht⟩ := H31.out.act hL
        obtain ⟨f1, hf1⟩ : ∃ f1, f1 = fitN 40 ps.length qs.length := ⟨_, rfl⟩
        rw [← hf1] at hbs' h3' ⊢
        have hfq : f1 ≤ qs.length := by rw [hf1]; unfold fitN; omega
        have HF1 : Hid (f1 ≤ qs.length ∧ ps.length + f1 ≤ 40) := hid ⟨hfq, by rw [hf1]; unfold fitN; have := HP.out.2.1; omega⟩
        have H32 := hid h3'
        have HBS := hid hbs'
        have HX2 : Hid (Sr w2 w.heap.size (.slice sa f1 sc) (qs.take f1)) := hid ((HX1.out.tch ht (H31.out.net.nb (by decide)) (fun h0 kk hk h => by have h1 := HX.out.2.1 h0 kk hk; have h2 := (H31.out.net.nb (by decide) kk h).1; omega)).head hfq)
        have hbx2 := ht.ob HBX.out HBK.out
        have c1 : w2.cell? ⟨wr.heap.size, 1, none⟩ = some (.slice sa sn sc) := cellAt' hbx2 1
        have HB2 : Hid (Below w.heap.size w w2) := hid (HBW.out.2.2.trans (ht.below (fun kk hk => (H31.out.net.nb (by decide) kk hk).1) HBW.out.2.2.size))
        have hfn : ¬ (sn : Int) < (f1 : Int) := by have := HSN.out.1; omega
        have hcut := cut_runL sa sn sc f1 (by have := HSN.out.2; omega)
        clear hL h3' hbs' ht hbx2 hf1 hfq b0 b1 b2
        go_wp2_with (at_builtin; refine wpList_append_rw rfl _ _ rfl w.heap.size (.slice ia inn ic) is rfl H32.out.rin _ (qs.take f1) rfl HX2.out (by rw [List.length_take]; have h1 := HP.out.2.2.2.2.2.1; have h2 := HNUM.out; omega) HB2.out.size ?_; (
          intro v4 w4 hR4 hg4 hf4
          have h34 := H32.out.putIn hR4 hg4 hf4
          have HI2 : Hid (CInv w w4 p v4 (.slice oa on oc) (szA (xs.take (j + 1)) + (j + 1))) := hid ⟨_, v', ps', _, os, h34, by rw [bs_append, HBS.out, show bs (qs.take f1) = (bs qs).take f1 by simp [bs, List.map_take]]; exact perm_put HP.out.1, by have h1 := congrArg List.length HBS.out; rw [bs_len, List.length_append, bs_len, List.length_take, bs_len] at h1; have h2 := HF1.out; omega, fun l hl => by
              rw [HBS.out] at hl
              rcases List.mem_append.1 hl with h | h
              · exact HP.out.2.2.1 l h
              · obtain ⟨y, hy, rfl⟩ := List.mem_map.1 (List.mem_of_mem_take h)
                have h1 := HX.out.2.2.2.2.2.2 y hy
                have h2 := HNUM.out
                omega, by have h1 := HP.out.2.2.2.1; have h2 := HF1.out.1; omega, by have h1 := HP.out.2.2.2.2.1; have h2 := HNUM.out; have h3 := HF1.out.1; omega, by rw [List.length_append, List.length_take]; have h1 := HP.out.2.2.2.2.2.1; have h2 := HNUM.out; omega, HB2.out.grown hg4 HB2.out.size (fun kk hk => (H32.out.rin.blk hk).1)⟩
          obtain ⟨a4, n4, cap4, rfl, hn4⟩ := hR4.asSlice
          clear hR4 hg4 hf4 h34 hn4))
        go_roundw
        case rel => exact ⟨j + 1, a4, oa, n4, on, cap4, oc, by omega, by go_num, rfl, rfl, HI2⟩
        case measure => simp [RowKit.intOf]; omega
      · have hk1 : (k : Int) % 5 = 1 := by omega
        have hk2 : (k : Int).tmod 5 = 1 := by rw [Int.tmod_eq_emod_of_nonneg (by omega)]; omega
        clear hk
        go_wp2_with fail
        go_at_call 17
        refine (cSend H31.out.net (Nat.le_trans HBW.out.1 HBW.out.2.1) (by decide) (by have := HP.out.2.1; omega) HX1.out (by have h1 := HNUM.out; omega) (fun y hy => by have h1 := HX.out.2.2.2.2.2.2 y hy; have h2 := HNUM.out; omega) HP.out.2.2.2.1 (by have h1 := HP.out.2.2.2.2.1; have h2 := HNUM.out; omega) (fun h0 kk hk h => by have h1 := HX.out.2.1 h0 kk hk; have h2 := (H31.out.net.nb (by decide) kk h).1; omega)).mono ?_
        rintro e w2 ⟨rfl, hL⟩
        obtain ⟨v', ps', h3', hbs', ht⟩ := H31.out.act hL
        obtain ⟨f1, hf1⟩ : ∃ f1, f1 = fitN 40 ps.length qs.length := ⟨_, rfl⟩
        rw [← hf1] at hbs' h3' ⊢
        have hfq : f1 ≤ qs.length := by rw [hf1]; unfold fitN; omega
        have HF1 : Hid (f1 ≤ qs.length ∧ ps.length + f1 ≤ 40) := hid ⟨hfq, by rw [hf1]; unfold fitN; have := HP.out.2.1; omega⟩
        have H32 := hid h3'
        have HBS := hid hbs'
        have HX2 : Hid (Sr w2 w.heap.size (.slice sa f1 sc) (qs.take f1)) := hid ((HX1.out.tch ht (H31.out.net.nb (by decide)) (fun h0 kk hk h => by have h1 := HX.out.2.1 h0 kk hk; have h2 := (H31.out.net.nb (by decide) kk h).1; omega)).head hfq)
        have hbx2 := ht.ob HBX.out HBK.out
        have c1 : w2.cell? ⟨wr.heap.size, 1, none⟩ = some (.slice sa sn sc) := cellAt' hbx2 1
        have HB2 : Hid (Below w.heap.size w w2) := hid (HBW.out.2.2.trans (ht.below (fun kk hk => (H31.out.net.nb (by decide) kk hk).1) HBW.out.2.2.size))
        have hfn : ¬ (sn : Int) < (f1 : Int) := by have := HSN.out.1; omega
        have hcut := cut_runL sa sn sc f1 (by have := HSN.out.2; omega)
        clear hL h3' hbs' ht hbx2 hf1 hfq b0 b1 b2
        go_wp2_with (at_builtin; refine wpList_append_rw rfl _ _ rfl w.heap.size (.slice ia inn ic) is rfl H32.out.rin _ (qs.take f1) rfl HX2.out (by rw [List.length_take]; have h1 := HP.out.2.2.2.2.2.1; have h2 := HNUM.out; omega) HB2.out.size ?_; (
          intro v4 w4 hR4 hg4 hf4
          have h34 := H32.out.putIn hR4 hg4 hf4
          have HI2 : Hid (CInv w w4 p v4 (.slice oa on oc) (szA (xs.take (j + 1)) + (j + 1))) := hid ⟨_, v', ps', _, os, h34, by rw [bs_append, HBS.out, show bs (qs.take f1) = (bs qs).take f1 by simp [bs, List.map_take]]; exact perm_put HP.out.1, by have h1 := congrArg List.length HBS.out; rw [bs_len, List.length_append, bs_len, List.length_take, bs_len] at h1; have h2 := HF1.out; omega, fun l hl => by
              rw [HBS.out] at hl
              rcases List.mem_append.1 hl with h | h
              · exact HP.out.2.2.1 l h
              · obtain ⟨y, hy, rfl⟩ := List.mem_map.1 (List.mem_of_mem_take h)
                have h1 := HX.out.2.2.2.2.2.2 y hy
                have h2 := HNUM.out
                omega, by have h1 := HP.out.2.2.2.1; have h2 := HF1.out.1; omega, by have h1 := HP.out.2.2.2.2.1; have h2 := HNUM.out; have h3 := HF1.out.1; omega, by rw [List.length_append, List.length_take]; have h1 := HP.out.2.2.2.2.2.1; have h2 := HNUM.out; omega, HB2.out.grown hg4 HB2.out.size (fun kk hk => (H32.out.rin.blk hk).1)⟩
          obtain ⟨a4, n4, cap4, rfl, hn4⟩ := hR4.asSlice
          clear hR4 hg4 hf4 h34 hn4))
        go_roundw
        case rel => exact ⟨j + 1, a4, oa, n4, on, cap4, oc, by omega, by go_num, rfl, rfl, HI2⟩
        case measure => simp [RowKit.intOf]; omega
      · by_cases hf : z < 0 ∨ (ps.length : Int) ≤ z
        · have hk1 : (k : Int) % 5 = 2 := by omega
          have hk2 : (k : Int).tmod 5 = 2 := by rw [Int.tmod_eq_emod_of_nonneg (by omega)]; omega
          clear hk
          have HI2 : Hid (CInv w W1 p (.slice ia inn ic) (.slice oa on oc) (szA (xs.take (j + 1)) + (j + 1))) := hid ⟨lost, v, ps, is, os, H31.out, HP.out.1, HP.out.2.1, HP.out.2.2.1, HP.out.2.2.2.1, by have h1 := HP.out.2.2.2.2.1; have h2 := HNUM.out.2.1; omega, by have h1 := HP.out.2.2.2.2.2.1; have h2 := HNUM.out.2.1; omega, HBW.out.2.2⟩
          have HT := hid (cTake_no H31.out.net z hf)
          clear hf
          go_wp2_with (go_at_call 15; refine HT.out.mono ?_; rintro e w2 ⟨rfl, rfl⟩)
          go_roundw
          case rel => exact ⟨j + 1, ia, oa, inn, on, ic, oc, by omega, by go_num, rfl, rfl, HI2⟩
          case measure => simp [RowKit.intOf]; omega
        · have hk1 : (k : Int) % 5 = 2 := by omega
          have hk2 : (k : Int).tmod 5 = 2 := by rw [Int.tmod_eq_emod_of_nonneg (by omega)]; omega
          clear hk
          obtain ⟨i, rfl⟩ : ∃ i : Nat, z = i := ⟨z.toNat, by omega⟩
          obtain ⟨y, hy⟩ : ∃ y, ps[i]? = some y := ⟨ps[i]'(by omega), List.getElem?_eq_getElem (by omega)⟩
          have HY := hid hy
          have HYL : Hid (y.2.length ≤ 3000) := hid (HP.out.2.2.1 _ (List.mem_of_getElem? (bs_at hy)))
          clear hy hf
          go_wp2_with fail
          go_at_call 15
          refine (cTake_yes H31.out.net HBW.out.2.2.size i HY.out (by have := HYL.out; omega) (by have := HP.out.2.1; omega)).mono ?_
          rintro e w2 ⟨r, v2, rfl, hO, hN, hTc, hF⟩
          have hL : LeftA 47 W1 w2 w.heap.size p 40 v lost (less (bs ps) i) := ⟨v2, _, hN, by rw [bs_less], hTc, hF⟩
          obtain ⟨v', ps', h3', hbs', ht⟩ := H31.out.act hL
          obtain ⟨⟨ra, rn, rc⟩, er, hO2⟩ := OwnB.sv hO
          replace er : r = .slice ra rn rc := er
          subst er
          have H32 := hid h3'
          have HBS := hid hbs'
          have hb3 : Below w2.heap.size w2 (w2.alloc (.cells #[.slice ra rn rc] 40)) := (Below.refl _ w2).alloc (Nat.le_refl _) _
          have HB3 := hid hb3
          have HS3 : Hid (Sr (w2.alloc (.cells #[.slice ra rn rc] 40)) w.heap.size (.slice (some ⟨w2.heap.size, 0, none⟩) 1 1) [(⟨ra, rn, rc⟩, y.2)]) := hid (Sr.one (OwnB.bt hO2))
          have HB2 : Hid (Below w.heap.size w w2) := hid (HBW.out.2.2.trans (ht.below (fun kk hk => (H31.out.net.nb (by decide) kk hk).1) HBW.out.2.2.size))
          have HOL : Hid (os.length ≤ 4000) := hid (by have h1 := HP.out.1.length_eq; rw [List.length_append, bs_len, bs_len] at h1; have h2 := HP.out.2.2.2.2.2.1; have h3 := HNUM.out; omega)
          clear hL h3' hbs' ht hO hO2 hN hTc hF hb3 b0 b1 b2
          go_wp2_with (at_builtin; refine wpList_append_rw rfl _ _ rfl w.heap.size (.slice oa on oc) os rfl (H32.out.on HB3.out).rout _ _ rfl HS3.out (by have := HOL.out; simp; omega) (Nat.le_trans HB2.out.size HB3.out.size) ?_; (
            intro v4 w4 hR4 hg4 hf4
            have h34 := (H32.out.on HB3.out).putOut hR4 hg4 hf4
            have HI2 : Hid (CInv w w4 p (.slice ia inn ic) v4 (szA (xs.take (j + 1)) + (j + 1))) := hid ⟨_, v', ps', is, _, h34, by rw [bs_append, HBS.out]; exact perm_take (x := y.2) HP.out.1 (bs_at HY.out), by have h1 := congrArg List.length HBS.out; rw [bs_len] at h1; have h2 := less_le (bs ps) i; rw [bs_len] at h2; have h3 := HP.out.2.1; omega, (fun l hl => by rw [HBS.out] at hl; exact HP.out.2.2.1 l (less_mem hl)), HP.out.2.2.2.1, by have h1 := HP.out.2.2.2.2.1; have h2 := HNUM.out; omega, by have h1 := HP.out.2.2.2.2.2.1; have h2 := HNUM.out; omega, (HB2.out.trans (HB3.out.mono HB2.out.size)).grown hg4 (HB2.out.trans (HB3.out.mono HB2.out.size)).size (fun kk hk => (H32.out.rout.blk hk).1)⟩
            obtain ⟨a4, n4, cap4, rfl, hn4⟩ := hR4.asSlice
            clear hR4 hg4 hf4 h34 hn4))
          go_roundw
          case rel => exact ⟨j + 1, ia, a4, inn, n4, ic, cap4, by omega, by go_num, rfl, rfl, HI2⟩
          case measure => simp [RowKit.intOf]; omega
      · by_cases hf : z < 0 ∨ (ps.length : Int) ≤ z
        · have hk1 : (k : Int) % 5 = 3 := by omega
          have hk2 : (k : Int).tmod 5 = 3 := by rw [Int.tmod_eq_emod_of_nonneg (by omega)]; omega
          clear hk
          have HI2 : Hid (CInv w W1 p (.slice ia inn ic) (.slice oa on oc) (szA (xs.take (j + 1)) + (j + 1))) := hid ⟨lost, v, ps, is, os, H31.out, HP.out.1, HP.out.2.1, HP.out.2.2.1, HP.out.2.2.2.1, by have h1 := HP.out.2.2.2.2.1; have h2 := HNUM.out.2.1; omega, by have h1 := HP.out.2.2.2.2.2.1; have h2 := HNUM.out.2.1; omega, HBW.out.2.2⟩
          have HT := hid (cTake_no H31.out.net z hf)
          clear hf
          go_wp2_with (go_at_call 15; refine HT.out.mono ?_; rintro e w2 ⟨rfl, rfl⟩)
          go_roundw
          case rel => exact ⟨j + 1, ia, oa, inn, on, ic, oc, by omega, by go_num, rfl, rfl, HI2⟩
          case measure => simp [RowKit.intOf]; omega
        · have hk1 : (k : Int) % 5 = 3 := by omega
          have hk2 : (k : Int).tmod 5 = 3 := by rw [Int.tmod_eq_emod_of_nonneg (by omega)]; omega
          clear hk
          obtain ⟨i, rfl⟩ : ∃ i : Nat, z = i := ⟨z.toNat, by omega⟩
          obtain ⟨y, hy⟩ : ∃ y, ps[i]? = some y := ⟨ps[i]'(by omega), List.getElem?_eq_getElem (by omega)⟩
          have HY := hid hy
          have HYL : Hid (y.2.length ≤ 3000) := hid (HP.out.2.2.1 _ (List.mem_of_getElem? (bs_at hy)))
          clear hy hf
          go_wp2_with fail
          go_at_call 15
          refine (cTake_yes H31.out.net HBW.out.2.2.size i HY.out (by have := HYL.out; omega) (by have := HP.out.2.1; omega)).mono ?_
          rintro e w2 ⟨r, v2, rfl, hO, hN, hTc, hF⟩
          have hL : LeftA 47 W1 w2 w.heap.size p 40 v lost (less (bs ps) i) := ⟨v2, _, hN, by rw [bs_less], hTc, hF⟩
          obtain ⟨v', ps', h3', hbs', ht⟩ := H31.out.act hL
          obtain ⟨⟨ra, rn, rc⟩, er, hO2⟩ := OwnB.sv hO
          replace er : r = .slice ra rn rc := er
          subst er
          have H32 := hid h3'
          have HBS := hid hbs'
          have hb3 : Below w2.heap.size w2 (w2.alloc (.cells #[.slice ra rn rc] 40)) := (Below.refl _ w2).alloc (Nat.le_refl _) _
          have HB3 := hid hb3
          have HS3 : Hid (Sr (w2.alloc (.cells #[.slice ra rn rc] 40)) w.heap.size (.slice (some ⟨w2.heap.size, 0, none⟩) 1 1) [(⟨ra, rn, rc⟩, y.2)]) := hid (Sr.one (OwnB.bt hO2))
          have HB2 : Hid (Below w.heap.size w w2) := hid (HBW.out.2.2.trans (ht.below (fun kk hk => (H31.out.net.nb (by decide) kk hk).1) HBW.out.2.2.size))
          have HOL : Hid (os.length ≤ 4000) := hid (by have h1 := HP.out.1.length_eq; rw [List.length_append, bs_len, bs_len] at h1; have h2 := HP.out.2.2.2.2.2.1; have h3 := HNUM.out; omega)
          clear hL h3' hbs' ht hO hO2 hN hTc hF hb3 b0 b1 b2
          go_wp2_with (at_builtin; refine wpList_append_rw rfl _ _ rfl w.heap.size (.slice oa on oc) os rfl (H32.out.on HB3.out).rout _ _ rfl HS3.out (by have := HOL.out; simp; omega) (Nat.le_trans HB2.out.size HB3.out.size) ?_; (
            intro v4 w4 hR4 hg4 hf4
            have h34 := (H32.out.on HB3.out).putOut hR4 hg4 hf4
            have HI2 : Hid (CInv w w4 p (.slice ia inn ic) v4 (szA (xs.take (j + 1)) + (j + 1))) := hid ⟨_, v', ps', is, _, h34, by rw [bs_append, HBS.out]; exact perm_take (x := y.2) HP.out.1 (bs_at HY.out), by have h1 := congrArg List.length HBS.out; rw [bs_len] at h1; have h2 := less_le (bs ps) i; rw [bs_len] at h2; have h3 := HP.out.2.1; omega, (fun l hl => by rw [HBS.out] at hl; exact HP.out.2.2.1 l (less_mem hl)), HP.out.2.2.2.1, by have h1 := HP.out.2.2.2.2.1; have h2 := HNUM.out; omega, by have h1 := HP.out.2.2.2.2.2.1; have h2 := HNUM.out; omega, (HB2.out.trans (HB3.out.mono HB2.out.size)).grown hg4 (HB2.out.trans (HB3.out.mono HB2.out.size)).size (fun kk hk => (H32.out.rout.blk hk).1)⟩
            obtain ⟨a4, n4, cap4, rfl, hn4⟩ := hR4.asSlice
            clear hR4 hg4 hf4 h34 hn4))
          go_roundw
          case rel => exact ⟨j + 1, ia, a4, inn, n4, ic, cap4, by omega, by go_num, rfl, rfl, HI2⟩
          case measure => simp [RowKit.intOf]; omega
      · by_cases hf : z < 0 ∨ (ps.length : Int) ≤ z
        · have hk1 : (k : Int) % 5 = 4 := by omega
          have hk2 : (k : Int).tmod 5 = 4 := by rw [Int.tmod_eq_emod_of_nonneg (by omega)]; omega
          clear hk
          have HI2 : Hid (CInv w W1 p (.slice ia inn ic) (.slice oa on oc) (szA (xs.take (j + 1)) + (j + 1))) := hid ⟨lost, v, ps, is, os, H31.out, HP.out.1, HP.out.2.1, HP.out.2.2.1, HP.out.2.2.2.1, by have h1 := HP.out.2.2.2.2.1; have h2 := HNUM.out.2.1; omega, by have h1 := HP.out.2.2.2.2.2.1; have h2 := HNUM.out.2.1; omega, HBW.out.2.2⟩
          have HAT := hid (cAt_no H31.out.net.1 H31.out.net.2.1 z hf)
          have HT := hid (cDouble_no H31.out.net z hf)
          clear hf
          go_wp2_with (first
            | (go_at_call 14; refine HAT.out.mono ?_; rintro e w2 ⟨rfl, rfl⟩)
            | (go_at_call 16; refine HT.out.mono ?_; rintro e w2 ⟨rfl, rfl⟩))
          go_roundw
          case rel => exact ⟨j + 1, ia, oa, inn, on, ic, oc, by omega, by go_num, rfl, rfl, HI2⟩
          case measure => simp [RowKit.intOf]; omega
        · by_cases hg : (ps.length : Int) < 40
          · have hk1 : (k : Int) % 5 = 4 := by omega
            have hk2 : (k : Int).tmod 5 = 4 := by rw [Int.tmod_eq_emod_of_nonneg (by omega)]; omega
            clear hk
            obtain ⟨i, rfl⟩ : ∃ i : Nat, z = i := ⟨z.toNat, by omega⟩
            obtain ⟨y, hy⟩ : ∃ y, ps[i]? = some y := ⟨ps[i]'(by omega), List.getElem?_eq_getElem (by omega)⟩
            have HY := hid hy
            have HYL : Hid (y.2.length ≤ 3000) := hid (HP.out.2.2.1 _ (List.mem_of_getElem? (bs_at hy)))
            clear hy hf
            have HAT := hid (cAt_yes H31.out.net.1 H31.out.net.2.1 i HY.out)
            have HT := hid (cDouble_yes H31.out.net HBW.out.2.2.size (by decide) hg i HY.out)
            have HG := hid hg
            have HYB := hid (H31.out.net.2.1.2 _ (List.mem_of_getElem? HY.out))
            obtain ⟨⟨ya, yn, yc⟩, yl⟩ := y
            dsimp only at HAT HYL HYB
            clear hg
            go_wp2_with fail
            go_at_call 14
            refine HAT.out.mono ?_
            rintro e w2 ⟨rfl, rfl⟩
            go_wp2_with fail
            go_at_call 16
            refine HT.out.mono ?_
            rintro e w2 ⟨v2, rfl, hN, hTc, hF⟩
            have hL : LeftA 47 W1 w2 w.heap.size p 40 v lost (bs ps ++ [yl]) := ⟨v2, _, hN, by rw [bs_append]; rfl, hTc, hF⟩
            obtain ⟨v', ps', h3', hbs', ht⟩ := H31.out.act hL
            have H32 := hid h3'
            have HBS := hid hbs'
            have hb3 : Below w2.heap.size w2 (w2.alloc (.cells #[.slice ya yn yc] 40)) := (Below.refl _ w2).alloc (Nat.le_refl _) _
            have HB3 := hid hb3
            have HS3 : Hid (Sr (w2.alloc (.cells #[.slice ya yn yc] 40)) w.heap.size (.slice (some ⟨w2.heap.size, 0, none⟩) 1 1) [(⟨ya, yn, yc⟩, yl)]) := hid (Sr.one (HYB.out.tch ht (H31.out.net.nb (by decide))))
            have HB2 : Hid (Below w.heap.size w w2) := hid (HBW.out.2.2.trans (ht.below (fun kk hk => (H31.out.net.nb (by decide) kk hk).1) HBW.out.2.2.size))
            clear hL h3' hbs' ht hN hTc hF hb3 b0 b1 b2
            go_wp2_with (at_builtin; refine wpList_append_rw rfl _ _ rfl w.heap.size (.slice ia inn ic) is rfl (H32.out.on HB3.out).rin _ _ rfl HS3.out (by have h1 := HP.out.2.2.2.2.2.1; have h2 := HNUM.out; simp; omega) (Nat.le_trans HB2.out.size HB3.out.size) ?_; (
              intro v4 w4 hR4 hg4 hf4
              have h34 := (H32.out.on HB3.out).putIn hR4 hg4 hf4
              have HI2 : Hid (CInv w w4 p v4 (.slice oa on oc) (szA (xs.take (j + 1)) + (j + 1))) := hid ⟨_, v', ps', _, os, h34, by rw [bs_append, HBS.out]; exact perm_put HP.out.1, by have h1 := congrArg List.length HBS.out; rw [bs_len, List.length_append, bs_len, List.length_singleton] at h1; have h2 := HG.out; omega, fun l hl => by
                  rw [HBS.out] at hl
                  rcases List.mem_append.1 hl with h | h
                  · exact HP.out.2.2.1 l h
                  · rw [List.mem_singleton.1 h]; exact HYL.out, HP.out.2.2.2.1, by have h1 := HP.out.2.2.2.2.1; have h2 := HNUM.out; omega, by rw [List.length_append, List.length_singleton]; have h1 := HP.out.2.2.2.2.2.1; have h2 := HNUM.out; omega, (HB2.out.trans (HB3.out.mono HB2.out.size)).grown hg4 (HB2.out.trans (HB3.out.mono HB2.out.size)).size (fun kk hk => (H32.out.rin.blk hk).1)⟩
              obtain ⟨a4, n4, cap4, rfl, hn4⟩ := hR4.asSlice
              clear hR4 hg4 hf4 h34 hn4))
            go_roundw
            case rel => exact ⟨j + 1, a4, oa, n4, on, cap4, oc, by omega, by go_num, rfl, rfl, HI2⟩
            case measure => simp [RowKit.intOf]; omega
          · have hg : (ps.length : Int) = 40 := by have := HP.out.2.1; omega
            have hk1 : (k : Int) % 5 = 4 := by omega
            have hk2 : (k : Int).tmod 5 = 4 := by rw [Int.tmod_eq_emod_of_nonneg (by omega)]; omega
            clear hk
            obtain ⟨i, rfl⟩ : ∃ i : Nat, z = i := ⟨z.toNat, by omega⟩
            obtain ⟨y, hy⟩ : ∃ y, ps[i]? = some y := ⟨ps[i]'(by omega), List.getElem?_eq_getElem (by omega)⟩
            have HY := hid hy
            have HYL : Hid (y.2.length ≤ 3000) := hid (HP.out.2.2.1 _ (List.mem_of_getElem? (bs_at hy)))
            clear hy hf
            have HAT := hid (cAt_yes H31.out.net.1 H31.out.net.2.1 i HY.out)
            have HT := hid (cDouble_full H31.out.net (by decide) hg i (List.getElem?_eq_some_iff.1 HY.out).1)
            obtain ⟨⟨ya, yn, yc⟩, yl⟩ := y
            dsimp only at HAT
            clear hg
            go_wp2_with (first
              | (go_at_call 14; refine HAT.out.mono ?_; rintro e w2 ⟨rfl, rfl⟩)
              | (go_at_call 16; refine HT.out.mono ?_; rintro e w2 ⟨rfl, hB2⟩; have HI2 : Hid (CInv w w2 p (.slice ia inn ic) (.slice oa on oc) (szA (xs.take (j + 1)) + (j + 1))) := hid ⟨lost, v, ps, is, os, H31.out.on hB2, HP.out.1, HP.out.2.1, HP.out.2.2.1, HP.out.2.2.2.1, by have h1 := HP.out.2.2.2.2.1; have h2 := HNUM.out.2.1; omega, by have h1 := HP.out.2.2.2.2.2.1; have h2 := HNUM.out.2.1; omega, HBW.out.2.2.trans (hB2.mono HBW.out.2.2.size)⟩; clear hB2))
            go_roundw
            case rel => exact ⟨j + 1, ia, oa, inn, on, ic, oc, by omega, by go_num, rfl, rfl, HI2⟩
            case measure => simp [RowKit.intOf]; omega
    · have hlt2 : ¬ (j : Int) < (n : Int) := by omega
      obtain ⟨lost, v, ps, is, os, h3, hperm, hpl, hpg, hl0, hln, hin, hB⟩ := HI.out
      have hjl : szA (xs.take j) + j ≤ 3080 := by have h1 := szA_le xs j; have h2 := HF.out.2; omega
      have H3 := hid h3
      have HB := hid hB
      have HP := hid (show (bs is).Perm (bs (os ++ ps)) from by rw [bs_append]; exact hperm)
      have HL : Hid (is.length ≤ 3080 ∧ (os ++ ps).length = is.length) := hid ⟨by omega, by have := HP.out.length_eq; rw [bs_len, bs_len] at this; exact this.symm⟩
      have HAL := hid (cAll h3.net hB.size (by omega))
      have hinn : inn = is.length := by
        obtain ⟨_, _, e1, _⟩ := h3.rin.any
        injection e1
      have HIN := hid hinn
      clear h3 hperm hpl hpg hl0 hln hin hB HI hinn hjl HA HR HF hncap hn80
      go_wp2_with fail
      go_at_call 11
      refine HAL.out.mono ?_
      rintro e w5 ⟨v5, rfl, hR5, _, hB5⟩
      have H35 := hid (H3.out.on hB5)
      have HR5 := hid hR5
      have HB5 := hid (HB.out.trans (hB5.mono HB.out.size))
      obtain ⟨a5, n5, c5, rfl, hn5⟩ := hR5.asSlice
      clear hR5 hB5 hn5 HAL
      go_wp2_with (at_builtin; refine wpList_append_rw rfl _ _ rfl w.heap.size (.slice oa on oc) os rfl H35.out.rout _ _ rfl HR5.out.sr (by have h1 := HL.out.2; rw [List.length_append] at h1; have h2 := HL.out.1; omega) HB5.out.size ?_; (
        intro v6 w6 hR6 hg6 hf6
        have h36 := H35.out.putOut hR6 hg6 hf6
        have HB6 := hid (HB5.out.grown hg6 HB5.out.size (fun kk hk => (H35.out.rout.blk hk).1))
        have H36 := hid h36
        obtain ⟨a6, n6, cap6, rfl, hn6⟩ := hR6.asSlice
        have HN6 := hid hn6
        clear hR6 hg6 hf6 h36 hn6))
      obtain rfl : n6 = inn := by rw [HN6.out, HL.out.2, HIN.out]
      have hn9 : n6 ≤ 3080 := by have h1 := HIN.out; have h2 := HL.out.1; omega
      go_loopw [16] (fun i W => ∃ (t m : Nat), t ≤ n6 ∧ i = .int .i64 t ∧ W = w6.drewN m) (fun i _ => n6 - (intOf i).toNat)
      case atStart => exact ⟨0, 0, Nat.zero_le _, rfl, rfl⟩
      case round =>
        obtain ⟨t, m, ht, rfl, hW⟩ := hrel
        have HWR := hid hW
        have hri : Rw wr w.heap.size (.slice ia n6 ic) is := by rw [hW]; exact H36.out.rin
        have hro : Rw wr w.heap.size (.slice a6 n6 cap6) (os ++ ps) := by rw [hW]; exact H36.out.rout
        clear hW
        by_cases htn : t < n6
        · have htn2 : (t : Int) < (n6 : Int) := by omega
          obtain ⟨q, hq⟩ : ∃ q, is[t]? = some q := ⟨is[t]'(by have := HIN.out; omega), List.getElem?_eq_getElem (by have := HIN.out; omega)⟩
          have hbq := (hri.2 _ (List.mem_of_getElem? hq)).1
          obtain ⟨⟨qa, qn, qc⟩, ql⟩ := q
          dsimp only at hbq
          have hc1 := fun mm => cCount (w := wr.drewN mm) (hri.drewN mm).sr (SlB.drewN mm hbq) (by have := HL.out.1; omega)
          have hc2 : ∀ mm, Calls Try.prog 18 #[.slice a6 n6 cap6, .slice qa qn qc] (wr.drewN mm) fun e w' => e = .returned (.int .i64 (List.count ql (bs is))) ∧ ∃ k, w' = (wr.drewN mm).drewN k := fun mm => by
            rw [HP.out.count_eq]
            exact cCount (w := wr.drewN mm) (hro.drewN mm).sr (SlB.drewN mm hbq) (by have := HL.out; omega)
          obtain ⟨cc, hcc⟩ : ∃ cc, cc = List.count ql (bs is) := ⟨_, rfl⟩
          rw [← hcc] at hc1 hc2
          have HC1 := hid hc1
          have HC2 := hid hc2
          rcases hri.shape with ⟨e1, e2⟩ | ⟨g, cap', e1, _, _, _, _, hcell, _⟩
          · rw [e2] at hq; simp at hq
          · injection e1 with e1 e3 e4
            subst e1
            have c0 := hcell t _ hq
            dsimp only at c0
            clear hri hro hq hbq hc1 hc2 hcc hcell e3 e4
            go_wp2
            go_quiet ((first | (go_at_call 18; with_reducible exact quietS2 (HC1.out _)) | (go_at_call 18; with_reducible exact quietS2 (HC2.out _))))
            go_wp2
            go_roundw
            case rel => exact ⟨t + 1, m + nq, by omega, by go_num, by rw [HWR.out, World.drewN_drewN]⟩
            case measure => simp [RowKit.intOf]; omega
        · have htn2 : ¬ (t : Int) < (n6 : Int) := by omega
          have HBW : Hid (Below w.heap.size w wr) := hid (by rw [HWR.out]; exact belowDrewN HB6.out _)
          clear hri hro
          go_wp2_with fail
          go_at_call 6
          refine (cAlive _).mono ?_
          rintro e w7 ⟨rfl, hB7⟩
          have HB7 := hid (HBW.out.trans (hB7.mono HBW.out.size))
          clear hB7
          go_wp2_with fail
          go_ret
          exact ⟨rfl, HB7.out⟩
end Go.Proofs.Ytcfkifiejojciaa
