/- The document's reader: Cmd. -/
import Derived.Test.YtmndjdaiailgmaaBox
import Derived.Deep.RegionHeld3
import Derived.Deep.LoopGhost
namespace Go.Proofs.Ytmndjdaiailgmaa
set_option linter.unusedVariables false
open Go.RowKit
open Go.Lib (hid)

/-- What the statement that builds a command reads. -/
def RawS (wr : World) (g : Nat) (c : C7) (W : World) : Prop := Below wr.heap.size wr W ∧ W.cell? ⟨g, 0, none⟩ = some (.int .i64 c.i) ∧ W.cell? ⟨g, 1, none⟩ = some (.int .i64 c.k) ∧ W.cell? ⟨g, 2, none⟩ = some (.int .i64 c.s) ∧ W.cell? ⟨g, 3, none⟩ = some (.int .i64 c.t) ∧ W.cell? ⟨g, 4, none⟩ = some (.int .i64 c.d) ∧ W.cell? ⟨g, 5, none⟩ = some (.int .i64 c.p) ∧ W.cell? ⟨g, 6, none⟩ = some (.int .i64 c.q)
theorem RawS.on {wr W W' : World} {g : Nat} {c : C7} (h : RawS wr g c W) (hg : g < wr.heap.size) (hb : Below wr.heap.size W W') : RawS wr g c W' := by
  obtain ⟨h0, h1, h2, h3, h4, h5, h6, h7⟩ := h
  have e := fun j => hb.cell (p := ⟨g, j, none⟩) hg
  exact ⟨h0.trans hb, (e 0).trans h1, (e 1).trans h2, (e 2).trans h3, (e 3).trans h4, (e 4).trans h5, (e 5).trans h6, (e 6).trans h7⟩

set_option maxHeartbeats 4000000 in
set_option maxRecDepth 100000 in
theorem rCmd {F : Nat → Prop} {p : Nat} {s : St} {w : World} (h : Rd 87 F w p s) (hF : ∀ k, F k → k < w.heap.size) : Calls Try.prog 79 #[.pointer (some ⟨p, 0, none⟩)] w fun x w' => x = .returned (cmdS s).1.v ∧ Rd 87 F w' p (cmdS s).2 ∧ w.grownBy w' (some p) := by
  have hp := h.lt
  have HX := hid (And.intro h hF)
  clear h hF
  obtain ⟨i0, hi, hz0, hz1, hz2⟩ := info_parts Try.infoI
  go_enter Try.func79, Try.ntmps79
  go_wp2
  go_loopg [3, 4] 7 (fun g u i wr => ∃ k : Nat, k ≤ 7 ∧ g = 7 - k ∧ i = .int .i64 k ∧ OwnN wr (w.heap.size + 1) u (rawL s k) ∧ Hid (Rd 87 F wr p (rawSt s k) ∧ (w.alloc zero7).grownBy wr (some p)))
  case atStart => exact ⟨0, by omega, rfl, rfl, World.ownsRow_nil _ _ _ _, HX.out.1.alloc _, grownRefl _ _⟩
  case round =>
    obtain ⟨k, hk, rfl, rfl, hown, hst⟩ := hrel
    have hsz : w.heap.size + 1 ≤ wr.heap.size := by have := hst.out.2.size; simpa using this
    by_cases hlt : k < 7
    · have hN := rNum hst.out.1
      have hll := rawL_len s k
      obtain ⟨n, hn⟩ : ∃ n, n = (numS (rawSt s k)).1 := ⟨_, rfl⟩
      rw [← hn] at hN
      have HN := hid hn
      have HO := hid hown
      have HL := hid hll
      clear hn hll
      go_wp2_with (first | (go_at_call 80; refine hN.mono ?_; rintro e w1 ⟨rfl, hR1, hg1⟩; have hs1 := hg1.size; have h0 := HO.out.kept hg1 (.inr (fun hh => by have := (HO.out.lt _ hh).1; omega)); have H1 := hid (And.intro hR1 (And.intro hg1 h0)); clear hR1 hg1 h0 hown) | (at_builtin; refine wpList_append_own _ rfl _ _ 81 rfl (w.heap.size + 1) 3 i0 _ 1 8 Try.underlying81 hi hz0 hz1 hz2 rfl (by decide) _ _ _ rfl (H1.out.2.2.alloc _) ⟨w1.heap.size, 0, none⟩ 1 1 [.int .i64 n] rfl rfl (newOne rfl) ?c2 ?c3 ?c4 ?c5 ?_))
      case c2 => first | rfl | trivial | (intro u hu; simp at hu; subst hu; rfl)
      case c3 => have := HL.out; unfold maxLen; omega
      case c4 => have := HL.out; omega
      case c5 => first | omega | (simp; omega)
      intro v' w2 hown' hgrow _
      have hR : OwnN w2 (w.heap.size + 1) v' (rawL s (k + 1)) := by rw [rawL_next, ← HN.out]; exact ownN_more hown' rfl
      have hlt' := HO.out.lt
      have hst2 : Rd 87 F w2 p (rawSt s (k + 1)) := (H1.out.1.alloc _).keptN hgrow fun j hj => ⟨by have := (hlt' j hj).1; omega, fun hh => by have := HX.out.2 j hh; have := (hlt' j hj).1; omega⟩
      have hg2 : (w.alloc zero7).grownBy w2 (some p) := grownThen (grownAlloc (grownTrans hst.out.2 H1.out.2.1) _) hgrow fun j hj => by have := (hlt' j hj).1; simpa using this
      have HR := hid (And.intro hR (And.intro hst2 hg2))
      clear hown' hgrow hR hst2 hg2 hlt'
      go_wp2
      go_roundg (7 - (k + 1))
      case measure => omega
      case rel => exact ⟨k + 1, by omega, rfl, by go_num, HR.out.1, HR.out.2⟩
    · obtain rfl : k = 7 := by omega
      obtain ⟨g, cap, hu, hg1, hg2, hcell⟩ := hown.cell (by rw [rawL_len]; omega)
      rw [rawL_len] at hu
      subst hu
      clear hown
      obtain ⟨c, hc⟩ : ∃ c, c = (cmdRaw s).1 := ⟨_, rfl⟩
      have hcell' : ∀ (j : Nat) x, c.nums[j]? = some x → wr.cell? ⟨g, j, none⟩ = some (.int .i64 x) := by rw [hc]; exact hcell
      have l0 := hcell' 0 _ rfl
      have l1 := hcell' 1 _ rfl
      have l2 := hcell' 2 _ rfl
      have l3 := hcell' 3 _ rfl
      have l4 := hcell' 4 _ rfl
      have l5 := hcell' 5 _ rfl
      have l6 := hcell' 6 _ rfl
      have HC := hid hc
      clear hcell hcell' hc
      have hS0 : RawS wr g c wr := ⟨Below.refl _ _, l0, l1, l2, l3, l4, l5, l6⟩
      have HK := hid (fun (W W' : World) (h : RawS wr g c W) (hb : Below wr.heap.size W W') => h.on hg2 hb)
      have HS0 := hid hS0
      clear hS0
      go_wp2
      go_region_held3 (fun W => Below wr.heap.size wr W ∧ W.cell? ⟨g, 0, none⟩ = some (.int .i64 c.i) ∧ W.cell? ⟨g, 1, none⟩ = some (.int .i64 c.k) ∧ W.cell? ⟨g, 2, none⟩ = some (.int .i64 c.s) ∧ W.cell? ⟨g, 3, none⟩ = some (.int .i64 c.t) ∧ W.cell? ⟨g, 4, none⟩ = some (.int .i64 c.d) ∧ W.cell? ⟨g, 5, none⟩ = some (.int .i64 c.p) ∧ W.cell? ⟨g, 6, none⟩ = some (.int .i64 c.q)) (first | exact HK.out _ _ HS0.out ((Below.refl _ _).drew) | assumption | exact HK.out _ _ HS0.out (((Below.refl _ _).alloc (Nat.le_refl _) _).drew) | exact HK.out _ _ (by assumption) ((Below.refl _ _).alloc (show RawS wr g c _ by assumption).1.size _)) (first | fail)
      -- tail
      have hRw : Rd 87 F ((wr.alloc (.cells #[.int .i64 c.i, .int .i64 c.k, .int .i64 c.s, .int .i64 c.t, .int .i64 c.d, .int .i64 c.p, .int .i64 c.q] 25)).drew) p (cmdRaw s).2 := hst.out.1.on (((Below.refl _ wr).alloc (Nat.le_refl _) _).drew)
      have hGw : (w.alloc zero7).grownBy ((wr.alloc (.cells #[.int .i64 c.i, .int .i64 c.k, .int .i64 c.s, .int .i64 c.t, .int .i64 c.d, .int .i64 c.p, .int .i64 c.q] 25)).drew) (some p) := grownDrew (grownAlloc hst.out.2 _)
      have hbw : ((wr.alloc (.cells #[.int .i64 c.i, .int .i64 c.k, .int .i64 c.s, .int .i64 c.t, .int .i64 c.d, .int .i64 c.p, .int .i64 c.q] 25)).drew).heap[wr.heap.size]? = some (.cells #[.int .i64 c.i, .int .i64 c.k, .int .i64 c.s, .int .i64 c.t, .int .i64 c.d, .int .i64 c.p, .int .i64 c.q] 25) := heap_alloc_new wr _
      have hO := fun W => rOne c.i c.k c.s c.t c.d c.p c.q W
      have hokc : oneB c.i c.k c.s c.t c.d c.p c.q = (cmdRaw s).1.ok := by rw [HC.out]; rfl
      have hwr := hsz
      clear l0 l1 l2 l3 l4 l5 l6 HS0 HK
      by_cases he : (cmdRaw s).2.2 = 0
      · rcases hok : (cmdRaw s).1.ok with _ | _
        · have HE := hid (cmdS_no he hok)
          rw [hokc, hok] at hO
          clear hokc hok
          go_wp2_with (first
            | (go_at_call 42; (
                refine (hO _).mono ?_
                rintro e w3 ⟨rfl, hB3⟩
                have hRd := hRw.on hB3
                have hG := grownUnder hGw (hB3.mono (by simp; omega))
                have hbx : w3.heap[wr.heap.size]? = some (.cells #[.int .i64 c.i, .int .i64 c.k, .int .i64 c.s, .int .i64 c.t, .int .i64 c.d, .int .i64 c.p, .int .i64 c.q] 25) := (hB3.block wr.heap.size (by simp)).trans hbw
                clear hB3 hRw hGw hbw
                obtain ⟨v3, _, _, _, c1', _, _, _, _⟩ := hRd.cells
                rw [he] at c1'
                have HF2 := hid (rFail hRd 2)
                clear he
                have HG := hid hG
                have HBX := hid hbx
                clear hG hbx hRd))
            | (go_at_call 88; (
                refine HF2.out.mono ?_
                rintro e w4 ⟨rfl, hRd, hg4⟩
                have hG := grownTrans HG.out hg4
                have hbx := heapOf HBX.out hg4 (by omega)
                clear hg4
                have hres : w4.heap[w.heap.size]? = some zero7 := heapOf (heap_alloc_new w zero7) hG (by omega)
                obtain ⟨v, hp0, hplt, c0, c1, f0, f1, hsb, hsF⟩ := hRd.cells
                have r0 : w4.cell? ⟨w.heap.size, 0, none⟩ = some (.int .i64 0) := (cellAt' hres 0).trans rfl
                have r1 : w4.cell? ⟨w.heap.size, 1, none⟩ = some (.int .i64 0) := (cellAt' hres 1).trans rfl
                have r2 : w4.cell? ⟨w.heap.size, 2, none⟩ = some (.int .i64 0) := (cellAt' hres 2).trans rfl
                have r3 : w4.cell? ⟨w.heap.size, 3, none⟩ = some (.int .i64 0) := (cellAt' hres 3).trans rfl
                have r4 : w4.cell? ⟨w.heap.size, 4, none⟩ = some (.int .i64 0) := (cellAt' hres 4).trans rfl
                have r5 : w4.cell? ⟨w.heap.size, 5, none⟩ = some (.int .i64 0) := (cellAt' hres 5).trans rfl
                have r6 : w4.cell? ⟨w.heap.size, 6, none⟩ = some (.int .i64 0) := (cellAt' hres 6).trans rfl
                have b0 : w4.cell? ⟨wr.heap.size, 0, none⟩ = some (.int .i64 c.i) := (cellAt' hbx 0).trans rfl
                have b1 : w4.cell? ⟨wr.heap.size, 1, none⟩ = some (.int .i64 c.k) := (cellAt' hbx 1).trans rfl
                have b2 : w4.cell? ⟨wr.heap.size, 2, none⟩ = some (.int .i64 c.s) := (cellAt' hbx 2).trans rfl
                have b3 : w4.cell? ⟨wr.heap.size, 3, none⟩ = some (.int .i64 c.t) := (cellAt' hbx 3).trans rfl
                have b4 : w4.cell? ⟨wr.heap.size, 4, none⟩ = some (.int .i64 c.d) := (cellAt' hbx 4).trans rfl
                have b5 : w4.cell? ⟨wr.heap.size, 5, none⟩ = some (.int .i64 c.p) := (cellAt' hbx 5).trans rfl
                have b6 : w4.cell? ⟨wr.heap.size, 6, none⟩ = some (.int .i64 c.q) := (cellAt' hbx 6).trans rfl
                have fz : ∀ j, w4.frozen? ⟨w.heap.size, j, none⟩ = false := fun j => frozenAt hres j
                have hsW := hG.size
                have hsW' : w.heap.size < w4.heap.size := by simp at hsW; omega
                have HD := hid (And.intro hRd hG)
                clear hres hbx hp0 hsb hsF hRd hG)))
          refine bodyPost_ret (v := C7.v ⟨0, 0, 0, 0, 0, 0, 0⟩) (by simp [results, Try.results79, go_sem, r0, r1, r2, r3, r4, r5, r6]) rfl ⟨?_, ?_, ?_⟩
          · rw [HE.out]; rfl
          · rw [HE.out]
            exact HD.out.1.keptN (grownSet7 _ _ _ _ _ _ _ _ _) fun j hj => ⟨by cases hj; omega, fun hh => by cases hj; have := HX.out.2 _ hh; omega⟩
          · exact grownThen (grownTrans (World.grownBy_alloc w zero7 _) HD.out.2) (grownSet7 _ _ _ _ _ _ _ _ _) fun j hj => by cases hj; exact Nat.le_refl _
        · have HE := hid (cmdS_yes he hok)
          rw [hokc, hok] at hO
          clear hokc hok
          go_wp2_with (go_at_call 42; (
            refine (hO _).mono ?_
            rintro e w3 ⟨rfl, hB3⟩
            have hRd := hRw.on hB3
            have hG := grownUnder hGw (hB3.mono (by simp; omega))
            have hbx : w3.heap[wr.heap.size]? = some (.cells #[.int .i64 c.i, .int .i64 c.k, .int .i64 c.s, .int .i64 c.t, .int .i64 c.d, .int .i64 c.p, .int .i64 c.q] 25) := (hB3.block wr.heap.size (by simp)).trans hbw
            clear hB3 hRw hGw hbw
            have hres : w3.heap[w.heap.size]? = some zero7 := heapOf (heap_alloc_new w zero7) hG (by omega)
            obtain ⟨v, hp0, hplt, c0, c1, f0, f1, hsb, hsF⟩ := hRd.cells
            have r0 : w3.cell? ⟨w.heap.size, 0, none⟩ = some (.int .i64 0) := (cellAt' hres 0).trans rfl
            have r1 : w3.cell? ⟨w.heap.size, 1, none⟩ = some (.int .i64 0) := (cellAt' hres 1).trans rfl
            have r2 : w3.cell? ⟨w.heap.size, 2, none⟩ = some (.int .i64 0) := (cellAt' hres 2).trans rfl
            have r3 : w3.cell? ⟨w.heap.size, 3, none⟩ = some (.int .i64 0) := (cellAt' hres 3).trans rfl
            have r4 : w3.cell? ⟨w.heap.size, 4, none⟩ = some (.int .i64 0) := (cellAt' hres 4).trans rfl
            have r5 : w3.cell? ⟨w.heap.size, 5, none⟩ = some (.int .i64 0) := (cellAt' hres 5).trans rfl
            have r6 : w3.cell? ⟨w.heap.size, 6, none⟩ = some (.int .i64 0) := (cellAt' hres 6).trans rfl
            have b0 : w3.cell? ⟨wr.heap.size, 0, none⟩ = some (.int .i64 c.i) := (cellAt' hbx 0).trans rfl
            have b1 : w3.cell? ⟨wr.heap.size, 1, none⟩ = some (.int .i64 c.k) := (cellAt' hbx 1).trans rfl
            have b2 : w3.cell? ⟨wr.heap.size, 2, none⟩ = some (.int .i64 c.s) := (cellAt' hbx 2).trans rfl
            have b3 : w3.cell? ⟨wr.heap.size, 3, none⟩ = some (.int .i64 c.t) := (cellAt' hbx 3).trans rfl
            have b4 : w3.cell? ⟨wr.heap.size, 4, none⟩ = some (.int .i64 c.d) := (cellAt' hbx 4).trans rfl
            have b5 : w3.cell? ⟨wr.heap.size, 5, none⟩ = some (.int .i64 c.p) := (cellAt' hbx 5).trans rfl
            have b6 : w3.cell? ⟨wr.heap.size, 6, none⟩ = some (.int .i64 c.q) := (cellAt' hbx 6).trans rfl
            have fz : ∀ j, w3.frozen? ⟨w.heap.size, j, none⟩ = false := fun j => frozenAt hres j
            have hsW := hG.size
            have hsW' : w.heap.size < w3.heap.size := by simp at hsW; omega
            have HD := hid (And.intro hRd hG)
            clear hres hbx hp0 hsb hsF hRd hG
            rw [he] at c1
            clear he))
          refine bodyPost_ret (v := C7.v c) (by simp [results, Try.results79, go_sem, r0, r1, r2, r3, r4, r5, r6]) rfl ⟨?_, ?_, ?_⟩
          · rw [HE.out]; exact congrArg _ (congrArg C7.v HC.out)
          · rw [HE.out]
            exact HD.out.1.keptN (grownSet7 _ _ _ _ _ _ _ _ _) fun j hj => ⟨by cases hj; omega, fun hh => by cases hj; have := HX.out.2 _ hh; omega⟩
          · exact grownThen (grownTrans (World.grownBy_alloc w zero7 _) HD.out.2) (grownSet7 _ _ _ _ _ _ _ _ _) fun j hj => by cases hj; exact Nat.le_refl _
      · have HE := hid (cmdS_err he)
        rw [hokc] at hO
        clear hokc
        go_wp2_with (go_at_call 42; (
          refine (hO _).mono ?_
          rintro e w3 ⟨rfl, hB3⟩
          have hRd := hRw.on hB3
          have hG := grownUnder hGw (hB3.mono (by simp; omega))
          have hbx : w3.heap[wr.heap.size]? = some (.cells #[.int .i64 c.i, .int .i64 c.k, .int .i64 c.s, .int .i64 c.t, .int .i64 c.d, .int .i64 c.p, .int .i64 c.q] 25) := (hB3.block wr.heap.size (by simp)).trans hbw
          clear hB3 hRw hGw hbw
          have hres : w3.heap[w.heap.size]? = some zero7 := heapOf (heap_alloc_new w zero7) hG (by omega)
          obtain ⟨v, hp0, hplt, c0, c1, f0, f1, hsb, hsF⟩ := hRd.cells
          have r0 : w3.cell? ⟨w.heap.size, 0, none⟩ = some (.int .i64 0) := (cellAt' hres 0).trans rfl
          have r1 : w3.cell? ⟨w.heap.size, 1, none⟩ = some (.int .i64 0) := (cellAt' hres 1).trans rfl
          have r2 : w3.cell? ⟨w.heap.size, 2, none⟩ = some (.int .i64 0) := (cellAt' hres 2).trans rfl
          have r3 : w3.cell? ⟨w.heap.size, 3, none⟩ = some (.int .i64 0) := (cellAt' hres 3).trans rfl
          have r4 : w3.cell? ⟨w.heap.size, 4, none⟩ = some (.int .i64 0) := (cellAt' hres 4).trans rfl
          have r5 : w3.cell? ⟨w.heap.size, 5, none⟩ = some (.int .i64 0) := (cellAt' hres 5).trans rfl
          have r6 : w3.cell? ⟨w.heap.size, 6, none⟩ = some (.int .i64 0) := (cellAt' hres 6).trans rfl
          have b0 : w3.cell? ⟨wr.heap.size, 0, none⟩ = some (.int .i64 c.i) := (cellAt' hbx 0).trans rfl
          have b1 : w3.cell? ⟨wr.heap.size, 1, none⟩ = some (.int .i64 c.k) := (cellAt' hbx 1).trans rfl
          have b2 : w3.cell? ⟨wr.heap.size, 2, none⟩ = some (.int .i64 c.s) := (cellAt' hbx 2).trans rfl
          have b3 : w3.cell? ⟨wr.heap.size, 3, none⟩ = some (.int .i64 c.t) := (cellAt' hbx 3).trans rfl
          have b4 : w3.cell? ⟨wr.heap.size, 4, none⟩ = some (.int .i64 c.d) := (cellAt' hbx 4).trans rfl
          have b5 : w3.cell? ⟨wr.heap.size, 5, none⟩ = some (.int .i64 c.p) := (cellAt' hbx 5).trans rfl
          have b6 : w3.cell? ⟨wr.heap.size, 6, none⟩ = some (.int .i64 c.q) := (cellAt' hbx 6).trans rfl
          have fz : ∀ j, w3.frozen? ⟨w.heap.size, j, none⟩ = false := fun j => frozenAt hres j
          have hsW := hG.size
          have hsW' : w.heap.size < w3.heap.size := by simp at hsW; omega
          have HD := hid (And.intro hRd hG)
          clear hres hbx hp0 hsb hsF hRd hG
          obtain ⟨ee, hee⟩ : ∃ ee, ee = (cmdRaw s).2.2 := ⟨_, rfl⟩
          rw [← hee] at c1 he
          clear hee))
        refine bodyPost_ret (v := C7.v ⟨0, 0, 0, 0, 0, 0, 0⟩) (by simp [results, Try.results79, go_sem, r0, r1, r2, r3, r4, r5, r6]) rfl ⟨?_, ?_, ?_⟩
        · rw [HE.out]; rfl
        · rw [HE.out]
          exact HD.out.1.keptN (grownSet7 _ _ _ _ _ _ _ _ _) fun j hj => ⟨by cases hj; omega, fun hh => by cases hj; have := HX.out.2 _ hh; omega⟩
        · exact grownThen (grownTrans (World.grownBy_alloc w zero7 _) HD.out.2) (grownSet7 _ _ _ _ _ _ _ _ _) fun j hj => by cases hj; exact Nat.le_refl _
end Go.Proofs.Ytmndjdaiailgmaa
