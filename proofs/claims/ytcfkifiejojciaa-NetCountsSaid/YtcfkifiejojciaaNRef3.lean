/- The document's net: frames sent. -/
import Derived.Test.YtcfkifiejojciaaNRef2
namespace Go.Proofs.Ytcfkifiejojciaa
set_option linter.unusedVariables false
open Go.RowKit
open Go.Lib (hid)

theorem LeftA.next {T : TypeId} {w wr w' : World} {B q : Nat} {room s2 : Int} {u v1 : Value} {ls2 : List (List UInt8)} (hT : Tch (Nb q u) w wr) (hF : Fr w.heap.size u v1) (h2 : LeftA T wr w' B q room v1 s2 ls2) : LeftA T w w' B q room u s2 ls2 := by
  obtain ⟨v', ps', h3, h4, h5, h6⟩ := h2
  exact ⟨v', ps', h3, h4, hT.next h5 (fun i hi => by rcases hi with h1 | h1; exact .inl (.inl h1); exact (hF i h1).imp .inr id), hF.trans h6 hT.size⟩
theorem fit_full {room : Int} {m j : Nat} (hm : (m : Int) ≤ room) (h : room ≤ ((m + fitN room m j : Nat) : Int)) : fitN room m (j + 1) = fitN room m j := by unfold fitN at *; omega
theorem fit_room {room : Int} {m j : Nat} (hm : (m : Int) ≤ room) (h : ¬ room ≤ ((m + fitN room m j : Nat) : Int)) : fitN room m (j + 1) = fitN room m j + 1 ∧ fitN room m j = j := by unfold fitN at *; omega

set_option maxHeartbeats 6400000 in
set_option maxRecDepth 100000 in
theorem rSend {w : World} {q B : Nat} {room s : Int} {u vl : Value} {ps qs : Ps} (h : NetR w B q room u s ps) (hB : B ≤ w.heap.size) (hr : room ≤ 4096) (hp : (ps.length : Int) ≤ room) (hs : Sr w B vl qs) (hq : qs.length ≤ 1000000) (hs0 : 0 ≤ s) (hs1 : s ≤ 1000000) (hap : 0 < qs.length → ∀ k, vl.ownBlock = some k → ¬ Nb q u k) :
    Calls Try.prog 19 #[ptr q, vl] w fun e w' => e = .returned (.int .i64 (fitN room ps.length qs.length : Nat)) ∧ LeftA 33 w w' B q room u (s + ((qs.length : Int) - (fitN room ps.length qs.length : Nat))) (bs ps ++ (bs qs).take (fitN room ps.length qs.length)) := by
  have HN := hid h
  have HSr := hid hs
  have HAP := hid hap
  have HBW := hid hB
  have HNB := hid (h.nb (by decide))
  obtain ⟨m, hm⟩ : ∃ m, m = ps.length := ⟨_, rfl⟩
  rw [← hm] at hp ⊢
  have HP := hid (And.intro hp (And.intro hr hm))
  obtain ⟨b, o, cap, al, rfl, hcap, _, hal, hc, hbl, hbt⟩ := hs
  obtain ⟨n, hn⟩ : ∃ n, n = qs.length := ⟨_, rfl⟩
  rw [← hn] at hal hbl hq hcap ⊢
  have HA := hid (And.intro hal hbl)
  have HC := hid hc
  have HBT := hid hbt
  have HNN := hid hn
  have HS := hid (And.intro hs0 hs1)
  have hcap2 : (n : Int) ≤ (cap : Int) := by omega
  have HQ := hid hq
  have HI0 : Hid (LeftA 33 w w B q room u (s + (((0 : Nat) : Int) - ((fitN room m 0 : Nat) : Int))) (bs ps ++ (bs qs).take (fitN room m 0))) := hid ⟨u, ps, by rw [show s + (((0 : Nat) : Int) - ((fitN room m 0 : Nat) : Int)) = s by unfold fitN; omega]; exact h, by rw [show fitN room m 0 = 0 by unfold fitN; omega, List.take_zero, List.append_nil], Tch.refl _ _, Fr.refl _ _⟩
  have hf0 : fitN room m 0 = 0 := by unfold fitN; omega
  clear h hap hr hp hm hal hbl hc hbt hn hB hs0 hs1 hcap
  go_enter Try.func19, Try.ntmps19
  go_wp2
  go_loopw [5, 6] (fun c i wr => ∃ j : Nat, j ≤ n ∧ i = .int .i64 j ∧ c = .int .i64 (fitN room m j : Nat) ∧ Hid (LeftA 33 w wr B q room u (s + ((j : Int) - (fitN room m j : Nat))) (bs ps ++ (bs qs).take (fitN room m j)))) (fun _ i _ => n - (intOf i).toNat)
  case atStart => exact ⟨0, Nat.zero_le _, rfl, by rw [hf0]; rfl, HI0⟩
  case round =>
    obtain ⟨j, hj, rfl, rfl, HI⟩ := hrel
    clear hf0 HI0
    obtain ⟨v1, ps1, hN, hbs, hT, hF⟩ := HI.out
    obtain ⟨c, hcj⟩ : ∃ c, c = fitN room m j := ⟨_, rfl⟩
    have HCJ := hid hcj
    rw [← hcj] at hN hbs ⊢
    have hcle : c ≤ j := by rw [hcj]; unfold fitN; omega
    clear hcj HI
    by_cases hlt : j < n
    · have hlt2 : (j : Int) < (n : Int) := by omega
      have hlen : ps1.length = m + c := by have h1 := congrArg List.length hbs; rw [bs_len, List.length_append, bs_len, List.length_take, bs_len] at h1; have := HNN.out; have := HP.out.2.2; omega
      have HLEN := hid hlen
      obtain ⟨l1, hl1⟩ : ∃ l1, l1 = ps1.length := ⟨_, rfl⟩
      obtain ⟨a1, cap1, e1, hcap1, _⟩ := hN.2.1.any
      rw [← hl1] at e1 hcap1
      rw [e1] at hN hF
      obtain ⟨hltq, c0, c1, c2, f0, f1, f2⟩ := hN.1.cells
      have HN1 := hid hN
      have HX := hid (And.intro hbs (And.intro hT hF))
      have HL1 := hid hl1
      clear hN hbs hT hF hlen hcap1 hl1 e1
      by_cases hfull : room ≤ (l1 : Int)
      · have d0 : decide (room ≤ (l1 : Int)) = true := decide_eq_true hfull
        have hfit := fit_full (j := j) HP.out.1 (by have h1 := HLEN.out; have h2 := HL1.out; have h3 := HCJ.out; omega)
        rw [← HCJ.out] at hfit
        have HFIT := hid hfit
        have hw : wrap64 (s + ((j : Int) - (c : Int)) + 1) = s + ((j : Int) - (c : Int)) + 1 := by have h1 := HS.out; have h2 := HQ.out; unfold wrap64; omega
        clear hfit
        go_wp2
        go_quiet (fail)
        obtain ⟨W0, hW0⟩ : ∃ W, W = wr.drewN nq := ⟨_, rfl⟩
        have hb0 : Below wr.heap.size wr W0 := by rw [hW0]; exact belowDrewN (Below.refl _ wr) _
        rw [← hW0]
        have hN0 := HN1.out.on hb0
        obtain ⟨hlt0, z0, z1, z2, y0, y1, y2⟩ := hN0.1.cells
        have hne0 := Tri.off hN0.1 (by decide) hN0.2.1
        have HL2 : Hid (LeftA 33 w (W0.setCell ⟨q, 2, none⟩ (.int .i64 (s + ((j : Int) - (c : Int)) + 1))) B q room u (s + (((j + 1 : Nat) : Int) - (fitN room m (j + 1) : Nat))) (bs ps ++ (bs qs).take (fitN room m (j + 1)))) := hid (by
          rw [HFIT.out, show s + (((j + 1 : Nat) : Int) - (c : Int)) = s + ((j : Int) - (c : Int)) + 1 by omega]
          refine LeftA.next HX.out.2.1 HX.out.2.2 ⟨_, ps1, ⟨Tri.set2 hN0.1, hN0.2.1.tch (S := fun k => k = q) (Tch.set _ _ _ rfl) (fun k hk => by cases hk; exact ⟨hN0.2.2, not8 hN0.1 (by decide)⟩) (fun k hk e => hne0 (by rw [hk, e])), hN0.2.2⟩, HX.out.1, (Tch.ofBelow hb0).trans (Tch.set _ _ _ (.inl rfl)), Fr.refl _ _⟩)
        clear hN0 hne0 hb0 hW0 c0 c1 c2 f0 f1 f2
        go_wp2
        go_roundw
        case rel => exact ⟨j + 1, by omega, by go_num, by rw [HFIT.out], HL2⟩
        case measure => simp [RowKit.intOf]; omega
      · have d0 : decide (room ≤ (l1 : Int)) = false := decide_eq_false hfull
        have hfit := fit_room (j := j) HP.out.1 (by have h1 := HLEN.out; have h2 := HL1.out; have h3 := HCJ.out; omega)
        rw [← HCJ.out] at hfit
        have HFIT := hid hfit
        have hw : (c : Int) + 1 ≤ 1000000 := by have h2 := HQ.out; omega
        obtain ⟨x, hxj⟩ : ∃ x, qs[j]? = some x := ⟨qs[j]'(by have := HNN.out; omega), List.getElem?_eq_getElem (by have := HNN.out; omega)⟩
        have hcj := HC.out j x hxj
        obtain ⟨⟨sa, sn, sc⟩, l⟩ := x
        dsimp only at hcj
        obtain rfl := HA.out.1 (by omega)
        have hb := HA.out.2 (by omega)
        have hnb : ¬ Nb q u b := HAP.out (by have := HNN.out; omega) b rfl
        have hcw : wr.cell? ⟨b, o + j, none⟩ = some (.slice sa sn sc) := (HX.out.2.1.cell hb hnb).trans hcj
        have hbw : b < wr.heap.size := Nat.lt_of_lt_of_le hb HX.out.2.1.size
        have hQ : Bt wr B ⟨sa, sn, sc⟩ l := (HBT.out _ (List.mem_of_getElem? hxj)).tch HX.out.2.1 HNB.out
        have HQX := hid hQ
        have HM : Hid (ps1.length < 4096) := hid (by have h1 := HP.out.2.1; have h2 := HL1.out; omega)
        have hbs2 : bs (ps1 ++ [((⟨sa, sn, sc⟩ : Sv), l)]) = bs ps ++ (bs qs).take (fitN room m (j + 1)) := by rw [bs_append, HX.out.1, List.append_assoc, HFIT.out.1, HFIT.out.2]; congr 1; exact (takeN_snoc (bs_at hxj)).symm
        have HBS := hid hbs2
        have HH : Hid (B ≤ wr.heap.size) := hid (Nat.le_trans HBW.out HX.out.2.1.size)
        clear hfit hcj hb hnb hQ hxj hbs2
        go_wp2
        go_quiet (fail)
        obtain ⟨W0, hW0⟩ : ∃ W, W = wr.drewN nq := ⟨_, rfl⟩
        have hb0 : Below wr.heap.size wr W0 := by rw [hW0]; exact belowDrewN (Below.refl _ wr) _
        have HSZ := hid (show W0.heap.size = wr.heap.size by rw [hW0]; rfl)
        rw [← hW0]
        have hN0 := HN1.out.on hb0
        obtain ⟨hlt0, z0, z1, z2, y0, y1, y2⟩ := hN0.1.cells
        have HN0 := hid hN0
        have HX0 := hid (HQX.out.on hb0)
        have HB0 := hid hb0
        have hg0 : b < W0.heap.size := by rw [HSZ.out]; exact hbw
        have k1 : W0.cell? ⟨b, o + j, none⟩ = some (.slice sa sn sc) := (hb0.cell (p := ⟨b, o + j, none⟩) hbw).trans hcw
        have HG := hid hg0
        clear c0 c1 c2 f0 f1 f2 hW0 hb0 hN0 y0 y2 hg0 hbw hcw
        have tok : Hid (0 = 0) := hid rfl
        go_wp2_with (first
          | (clear tok; at_builtin; refine wpList_append_rw rfl _ _ rfl B _ [] rfl (Rw.made W0 (by have h1 := HH.out; have h2 := HSZ.out; omega)) _ ps1 rfl (HN0.out.on ((Below.refl _ W0).alloc (Nat.le_refl _) _)).2.1.sr (by have := HM.out; simp; omega) (by have h1 := HH.out; have h2 := HSZ.out; simp; omega) ?_; (
              intro v3 w1 hR hg1 hf1
              have hb1 : Below W0.heap.size W0 w1 := ((Below.refl _ W0).alloc (Nat.le_refl _) (.cells #[] 40)).grown hg1 (by simp) (fun k hk => by cases hk; exact Nat.le_refl _)
              have HB1 := hid hb1
              have HR1 : Hid (Rw w1 B v3 ps1) := hid hR
              have HF1 : Hid (∀ k, v3.ownBlock = some k → W0.heap.size ≤ k) := hid (fun k hk => by
                rcases hf1 k hk with h1 | h1
                · cases h1; exact Nat.le_refl _
                · simp at h1; omega)
              have e1 := (hb1.cell (p := ⟨q, 1, none⟩) hlt0).trans z1
              have e2 := (hb1.cell (p := ⟨b, o + j, none⟩) HG.out).trans k1
              have HX1 := hid (HX0.out.on hb1)
              have hb2 : Below w1.heap.size w1 (w1.alloc (.cells #[.slice sa sn sc] 40)) := (Below.refl _ w1).alloc (Nat.le_refl _) _
              have HB2 := hid hb2
              have HS2 : Hid (Sr (w1.alloc (.cells #[.slice sa sn sc] 40)) B (.slice (some ⟨w1.heap.size, 0, none⟩) 1 1) [(⟨sa, sn, sc⟩, l)]) := hid (Sr.one HX1.out)
              have HZ : Hid (B ≤ w1.heap.size) := hid (by have h1 := HH.out; have h2 := HSZ.out; have h3 := hb1.size; omega)
              obtain ⟨a3, n3, cap3, rfl, hn3⟩ := hR.asSlice
              clear hR hg1 hf1 hb1 hb2 hn3))
          | (at_builtin; refine wpList_append_rw rfl _ _ rfl B _ ps1 rfl (HR1.out.on HB2.out) _ _ rfl HS2.out (by have := HM.out; simp; omega) (by have := HZ.out; simp; omega) ?_; (
              intro v2 w2 hR2 hg2 hf2
              have HL := hid (left_new HN0.out (HB1.out.trans (HB2.out.mono HB1.out.size)) hR2 hg2 HF1.out hf2)
              have hb3 : Below W0.heap.size W0 w2 := (HB1.out.trans (HB2.out.mono HB1.out.size)).grown hg2 (HB1.out.trans (HB2.out.mono HB1.out.size)).size HF1.out
              obtain ⟨hlt3, p0, p1, p2, o0, o1, o2⟩ := Tri.cells (obOn HN0.out.1 hb3 hlt0)
              obtain ⟨a2, n2, cap2, rfl, hn2⟩ := hR2.asSlice
              clear hR2 hg2 hf2 hb3 hn2)))
        go_roundw
        case rel =>
          refine ⟨j + 1, by omega, by go_num, by rw [HFIT.out.1]; go_num, hid ?_⟩
          rw [show s + (((j + 1 : Nat) : Int) - ((fitN room m (j + 1) : Nat) : Int)) = s + ((j : Int) - (c : Int)) by rw [HFIT.out.1]; omega, ← HBS.out]
          obtain ⟨v', ps', h1, h2, h3, h4⟩ := HL.out
          exact LeftA.next HX.out.2.1 HX.out.2.2 ⟨v', ps', h1, h2, (Tch.ofBelow HB0.out).trans h3, fun k hk => by have := h4 k hk; rw [HSZ.out] at this; exact this⟩
        case measure => simp [RowKit.intOf]; omega
    · have hlt2 : ¬ (j : Int) < (n : Int) := by omega
      obtain rfl : j = n := by omega
      have HL := hid (show LeftA 33 w wr B q room u (s + ((j : Int) - ((fitN room m j : Nat) : Int))) (bs ps ++ (bs qs).take (fitN room m j)) from by rw [← HCJ.out]; exact ⟨v1, ps1, hN, hbs, hT, hF⟩)
      have HV := hid (show Ending.returned (.int .i64 (c : Int)) = Ending.returned (.int .i64 ((fitN room m j : Nat) : Int)) from by rw [← HCJ.out])
      clear hN hbs hT hF
      go_wp2
      go_ret
      exact ⟨HV.out, HL.out⟩
end Go.Proofs.Ytcfkifiejojciaa
