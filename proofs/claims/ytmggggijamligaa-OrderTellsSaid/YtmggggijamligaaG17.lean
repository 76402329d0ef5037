import Derived.Test.YtmggggijamligaaG16
import Derived.Test.YtmggggijamligaaG05
namespace Go.Proofs.Ytmggggijamligaa
set_option linter.unusedVariables false
open Go.RowKit
open Go.Lib (hid)
theorem fin_start {W0 w : World} {p : Rv} {l : List En} {had : List Int} (h : Started W0 w p l had) : ∃ st bh tu, Fin W0 w p l had st bh tu [] := by
  obtain ⟨st, bh, tu, h1, h2, h3, h4, h5, _, h7⟩ := h
  have e : had ++ idsL [] = had := List.append_nil _
  exact ⟨st, bh, tu, h1, by rw [e]; exact h3, h4, h5, h2, by rw [e]; exact h7, by rw [e]; exact told_start l had, by rw [e]; rfl, by rw [e]; have := leftN_le l had; simp only [List.length_nil]; omega⟩
theorem fin_end {W0 w : World} {p : Rv} {l : List En} {had st : List Int} {bh : Int → List Int} {tl : List C7} (h : Fin W0 w p l had st bh [] tl) : nextN l (had ++ idsL tl) = none ∧ tl = allF l had := by
  have hn : nextN l (had ++ idsL tl) = none := next_of_none fun j x hx => by
    rcases e : readyB l (had ++ idsL tl) j x with _ | _
    · rfl
    · have := (h.tu.2 x.e.vt j).2 ⟨x, hx, rfl, e⟩
      cases this
  refine ⟨hn, ?_⟩
  have := h.all
  rw [allF_none hn, List.append_nil] at this
  exact this
set_option maxHeartbeats 4000000 in
set_option maxRecDepth 100000 in
theorem allOK : AllOK := by
  intro v vh l had w h hA hs hl hh hhl hWf
  have hlook := cLook h hl hh.1 hhl hWf
  have HH := hid h
  have HA := hid hA
  have HS := hid hs
  have HL := hid hl
  have HW := hid hWf
  obtain ⟨b, o, cap, a, hv, ha, hc, hb⟩ := h
  subst hv
  have hlm : (evs l).length = l.length := List.length_map ..
  rw [hlm] at hlook HH ⊢
  clear ha hc hb hlm hA hs hh hhl hWf
  go_enter Try.func11, Try.ntmps11
  go_upto_region 2 with (first
    | (go_at_call 20; refine hlook.mono ?_; clear hlook; rintro e w1 ⟨F, H, rfl, hF, hH, hF1, hH1, hB1⟩; have HV : Hid (Vw w1 (.slice a l.length cap) F H l.length had.length l had) := hid ⟨HH.out.on hB1, HA.out.on hB1, hF, hH, HW.out⟩; have HB1 := hid hB1; clear hF hH hF1 hH1 hB1)
    | (go_at_call 24; refine (cStart HV.out HL.out HS.out).mono ?_; rintro e w2 ⟨p, he, hp⟩; obtain ⟨PR, hPR⟩ : ∃ z, z = p.R := ⟨_, rfl⟩; rw [← hPR] at he; subst he; have HP := hid (fin_start hp); have HPR := hid hPR; clear hp hPR)
    | fail)
  obtain ⟨st, bh, tu, hf⟩ := HP.out
  have hfin := cFinish hf HL.out HS.out
  have HBX : Hid (Below w.heap.size w (w1.alloc (.cells (vwC (.slice a l.length cap) F H) 63))) := hid (HB1.out.alloc HB1.out.size _)
  generalize w1.alloc (.cells (vwC (.slice a l.length cap) F H) 63) = w0 at hfin HBX
  rw [← HPR.out] at hfin
  clear hf HP
  go_upto_region 3 with (first
    | (go_at_call 25; refine hfin.mono ?_; clear hfin; rintro e w3 ⟨rfl, p3, st3, tl, h1, h2⟩; have K1 := hid h1; have K2 := hid h2; clear h1 h2)
    | fail)
  obtain ⟨oa, on, oc, hov⟩ : ∃ oa on oc, p3.ov = .slice oa on oc := by
    rcases K2.out.rn.td.shape with ⟨e, _⟩ | ⟨g, cap, e, _⟩
    · exact ⟨_, _, _, e⟩
    · exact ⟨_, _, _, e⟩
  have s6 : w3.cell? ⟨PR, 6, none⟩ = some (.slice oa on oc) := by rw [← K1.out, ← hov]; exact K2.out.rn.cell rfl
  have HOV := hid hov
  clear hov
  go_wp2_with fail
  go_ret
  refine ⟨_, rfl, ?_, ?_⟩
  · show Own w3 w.heap.size (.slice oa on oc) (allF l had)
    rw [← HOV.out, ← (fin_end K2.out).2]
    exact own_monoB K2.out.rn.td HBX.out.size
  · exact HBX.out.trans (K2.out.rn.sd.bel.mono HBX.out.size)
end Go.Proofs.Ytmggggijamligaa
namespace Go.Proofs.Ytmggggijamligaa
set_option linter.unusedVariables false
open Go.RowKit
open Go.Lib (hid)
set_option maxHeartbeats 4000000 in
set_option maxRecDepth 100000 in
theorem waitsOK : WaitsOK := by
  intro v vh l had w h hA hs hl hh hhl hWf
  have hlook := cLook h hl hh.1 hhl hWf
  have HH := hid h
  have HA := hid hA
  have HS := hid hs
  have HL := hid hl
  have HW := hid hWf
  obtain ⟨b, o, cap, a, hv, ha, hc, hb⟩ := h
  subst hv
  have hlm : (evs l).length = l.length := List.length_map ..
  rw [hlm] at hlook HH ha hb ⊢
  obtain ⟨m, hm⟩ : ∃ m, m = l.length := ⟨_, rfl⟩
  have HM := hid hm
  have HCC := hid hc
  rw [← hm] at hlook HH ha hb hl ⊢
  clear hc hlm hA hs hh hhl hWf hm
  go_enter Try.func14, Try.ntmps14
  go_upto_region 2 with (first
    | (go_at_call 20; refine hlook.mono ?_; clear hlook; rintro e w1 ⟨F, H, rfl, hF, hH, hF1, hH1, hB1⟩; have HV : Hid (Vw w1 (.slice a m cap) F H m had.length l had) := hid ⟨HH.out.on hB1, HA.out.on hB1, hF, hH, HW.out⟩; have HB1 := hid hB1; clear hF hH hF1 hH1 hB1)
    | (go_at_call 24; refine (cStart HV.out HL.out HS.out).mono ?_; rintro e w2 ⟨p, he, hp⟩; obtain ⟨PR, hPR⟩ : ∃ z, z = p.R := ⟨_, rfl⟩; rw [← hPR] at he; subst he; have HP := hid (fin_start hp); have HPR := hid hPR; clear hp hPR)
    | fail)
  obtain ⟨st, bh, tu, hf⟩ := HP.out
  have hfin := cFinish hf HL.out HS.out
  have HBX : Hid (Below w.heap.size w (w1.alloc (.cells (vwC (.slice a m cap) F H) 63))) := hid (HB1.out.alloc HB1.out.size _)
  generalize w1.alloc (.cells (vwC (.slice a m cap) F H) 63) = w0 at hfin HBX
  rw [← HPR.out] at hfin
  clear hf HP
  go_upto_region 3 with (first
    | (go_at_call 25; refine hfin.mono ?_; clear hfin; rintro e w3 ⟨rfl, p3, st3, tl, h1, h2⟩; have K1 := hid h1; have K2 := hid h2; clear h1 h2)
    | fail)
  obtain ⟨hs, hHS⟩ : ∃ z, z = had ++ idsL tl := ⟨_, rfl⟩
  have HEN : Hid (nextN l hs = none ∧ tl = allF l had) := hid (by rw [hHS]; exact fin_end K2.out)
  have HST : Hid (StG l (cntAt l had hs) st3) := hid (by rw [hHS]; exact K2.out.st)
  have HTO : Hid (ToldOK l had hs) := hid (by rw [hHS]; exact K2.out.tol)
  have HHS := hid hHS
  have HBW : Hid (Below w.heap.size w w3) := hid (HBX.out.trans (K2.out.rn.sd.bel.mono HBX.out.size))
  clear hHS
  go_wp2_with fail
  go_loopw [6, 16] (fun s6 s16 wr => ∃ (k : Nat) (u : List Int), k ≤ m ∧ s16 = .int .i64 k ∧ Hid (OwnI wr w3.heap.size s6 u) ∧ Hid (u = waitsUp l hs k) ∧ Hid (Below w3.heap.size w3 wr)) (fun _ s16 _ => m - (RowKit.intOf s16).toNat)
  case atStart => exact ⟨0, [], Nat.zero_le _, rfl, hid (OwnI.nil _ _), hid rfl, hid (Below.refl _ _)⟩
  case round =>
    obtain ⟨k, u, hk, rfl, HU, HUE, HBQ⟩ := hrel
    obtain ⟨g8, c8, n8, rfl, -⟩ := HU.out.asSlice
    by_cases hlt : k < m
    · have hlti : ((k : Int) < m) := by omega
      obtain rfl := ha (by omega)
      have hbw := hb (by omega)
      obtain ⟨x, hx⟩ : ∃ x, l[k]? = some x := ⟨l[k]'(by rw [← HM.out]; exact hlt), List.getElem?_eq_getElem (by rw [← HM.out]; exact hlt)⟩
      have HX := hid hx
      have HRN := hid (K2.out.rn.on HBQ.out)
      have hsl : st3.length = m := by rw [HST.out.1, HM.out]
      obtain ⟨g, gcap, hsv, hgw, hsc, hsf⟩ := HRN.out.svs (by omega)
      rw [hsl] at hsv
      obtain ⟨cv, hcv⟩ : ∃ z, z = cntO l had hs k x := ⟨_, rfl⟩
      have s1 : wr.cell? ⟨PR, 3, none⟩ = some (.slice (some ⟨g, 0, none⟩) m gcap) := by rw [← K1.out, ← hsv]; exact HRN.out.cell rfl
      have sc : wr.cell? ⟨g, k, none⟩ = some (.int .i64 (cv : Int)) := hsc k _ (by rw [HST.out.2 k (by rw [← HM.out]; exact hlt), cntAt_some hx, ← hcv])
      have HEW : Hid (waitB l hs k x = decide (0 < cv)) := hid (by rw [hcv]; exact end_waits HTO.out HEN.out.1 hx)
      obtain ⟨xi, hxi⟩ : ∃ z, z = x.id := ⟨_, rfl⟩
      have HXI := hid hxi
      have c0 : wr.cell? ⟨b, o + k * 19, none⟩ = some (.int .i64 xi) := ((HBW.out.trans (HBQ.out.mono HBW.out.size)).cell hbw).trans (by rw [hxi]; exact HCC.out k x.e (at_evs hx) 0 _ rfl)
      have HUL : Hid (u.length ≤ 1000) := hid (by have := HUE.out; have h2 := waitsUp_len (l := l) (h := hs) k; rw [← this] at h2; omega)
      clear hsc hsf hsv hcv hx hxi hsl
      rcases Nat.eq_zero_or_pos cv with hz | hz
      · subst hz
        go_wp2_with fail
        go_roundw
        case rel => exact ⟨k + 1, u, by omega, by go_num, HU, hid (wait_keep HX.out HUE.out (by rw [HEW.out]; rfl)), HBQ⟩
        case measure => first | omega | (simp [RowKit.intOf]; omega)
      · have hzi : (0 : Int) < cv := by omega
        have tk3 : Hid (1 = 1) := hid rfl
        go_wp2_with (first
          | (clear tk3; at_builtin; refine wpList_append_ii rfl _ _ rfl w3.heap.size _ u rfl (HU.out.on ((Below.refl _ _).alloc (Nat.le_refl _) _)) _ [xi] rfl (OwnI.one _ xi) (by have := HUL.out; simp only [List.length_singleton]; omega) (by have := HBQ.out.size; simp; omega) ?_; intro v4 w4 hown4 hgrow4; have HB4 : Hid (Below w3.heap.size w3 w4) := hid ((HBQ.out.alloc HBQ.out.size _).grown hgrow4 (by have := HBQ.out.size; simp; omega) (fun k hk => (HU.out.lt k hk).1)); have HU4 := hid hown4; clear hown4 hgrow4)
          | fail)
        go_roundw
        case rel => exact ⟨k + 1, u ++ [xi], by omega, by go_num, HU4, hid (by rw [HXI.out]; exact wait_take HX.out HUE.out (by rw [HEW.out, decide_eq_true hz])), HB4⟩
        case measure => first | omega | (simp [RowKit.intOf]; omega)
    · have hlti : ¬ ((k : Int) < m) := by omega
      have hkm : k = m := by omega
      have HRE : Hid (u = waitsF l had) := hid (by rw [HUE.out, hkm, HM.out, HHS.out, HEN.out.2]; rfl)
      go_wp2_with fail
      go_ret
      exact ⟨_, rfl, by rw [← HRE.out]; exact own_monoB HU.out HBW.out.size, HBW.out.trans (HBQ.out.mono HBW.out.size)⟩
end Go.Proofs.Ytmggggijamligaa
namespace Go.Proofs.Ytmggggijamligaa
set_option linter.unusedVariables false
open Go.RowKit
open Go.Lib (hid)
def BoxC (w : World) (q : Nat) (c : C7) : Prop := w.heap[q]? = some (.cells #[.int .i64 c.i, .int .i64 c.k, .int .i64 c.s, .int .i64 c.t, .int .i64 c.d, .int .i64 c.p, .int .i64 c.q] 31 (0, 0))
theorem BoxC.on {w w' : World} {q : Nat} {c : C7} (h : BoxC w q c) (hb : Below w.heap.size w w') : BoxC w' q c := (hb.block q (Array.getElem?_eq_some_iff.1 h).1).trans h
theorem BoxC.cells {w : World} {q : Nat} {c : C7} (h : BoxC w q c) : w.cell? ⟨q, 0, none⟩ = some (.int .i64 c.i) ∧ w.cell? ⟨q, 1, none⟩ = some (.int .i64 c.k) ∧ w.cell? ⟨q, 2, none⟩ = some (.int .i64 c.s) ∧ w.cell? ⟨q, 3, none⟩ = some (.int .i64 c.t) ∧ w.cell? ⟨q, 4, none⟩ = some (.int .i64 c.d) ∧ w.cell? ⟨q, 5, none⟩ = some (.int .i64 c.p) ∧ w.cell? ⟨q, 6, none⟩ = some (.int .i64 c.q) := by
  refine ⟨?_, ?_, ?_, ?_, ?_, ?_, ?_⟩ <;> (rw [cellAt' h]; rfl)
theorem fits_bool {v : Value} {l : List En} {w : World} (h : SlE w v (evs l)) (hA : AllAt w l) (hl : l.length ≤ 9223372036854775807) : Calls Try.prog 5 #[v] w fun e w' => ∃ b : Bool, e = .returned (.bool b) ∧ (b = true → l.length ≤ 40 ∧ ∀ y ∈ l, y.short 80) ∧ Below w.heap.size w w' :=
  (cFitsL h hA hl).mono fun e w' ⟨h1, h2⟩ => by
    rcases h1 with h1 | ⟨h1, h3⟩
    · exact ⟨false, h1, (fun e => by cases e), h2⟩
    · exact ⟨true, h1, fun _ => h3, h2⟩
set_option maxHeartbeats 4000000 in
set_option maxRecDepth 100000 in
theorem cTells (hNX : NextOK) (hAL : AllOK) (hWA : WaitsOK) (hLV : AliveOK) {v vh : Value} {l : List En} {had : List Int} {w : World} (h : SlE w v (evs l)) (hA : AllAt w l) (hl : l.length ≤ 9223372036854775807) (hh : SlS w vh had) (hhl : had.length ≤ 9223372036854775807) (hwf : WfA l had) : Calls Try.prog 3 #[v, vh] w fun e w' => e = .returned (.bool true) ∧ Below w.heap.size w w' := by
  have hF := fits_bool h hA hl
  have HS := hid h
  have HWF := hid hwf
  have HA := hid hA
  have HLV := hid hLV
  have HNX : Hid NextOK := hid hNX
  have HAL : Hid AllOK := hid hAL
  have HWA : Hid WaitsOK := hid hWA
  obtain ⟨_, _, ch, ah, rfl, -⟩ := id hh.1
  have HH := hid hh
  obtain ⟨n, hn⟩ : ∃ n, n = had.length := ⟨_, rfl⟩
  rw [← hn] at hhl HH ⊢
  have HNL := hid hn
  clear h hA hh hwf hLV hNX hAL hWA hn
  go_enter Try.func3, Try.ntmps3
  go_upto_region 2 with (first
    | (go_at_call 5; refine hF.mono ?_; clear hF; rintro e w1 ⟨ft, rfl, hft, hB1⟩)
    | fail)
  have HB1 := hid hB1
  have hlv1 := HLV.out w1
  clear hB1
  rcases ft with _ | _
  · go_wp2_with (first
      | (go_at_call 6; refine hlv1.mono ?_; clear hlv1; rintro e w2 ⟨rfl, hB2⟩; have HB2 := hid (HB1.out.trans (hB2.mono HB1.out.size)); clear hB2)
      | fail)
    go_ret
    exact ⟨rfl, HB2.out⟩
  obtain ⟨hl40, hsh⟩ := hft rfl
  have HL40 := hid hl40
  have HSH : Hid (∀ y ∈ l, y.short 100) := hid (fun y hy => ⟨Nat.le_trans (hsh y hy).1 (by decide), Nat.le_trans (hsh y hy).2.1 (by decide), Nat.le_trans (hsh y hy).2.2 (by decide)⟩)
  clear hft hl40 hsh
  by_cases hn100 : n ≤ 100
  rotate_left
  · have hn1 : ((100 : Int) < n) := by omega
    go_wp2_with (first
      | (go_at_call 6; refine hlv1.mono ?_; clear hlv1; rintro e w2 ⟨rfl, hB2⟩; have HB2 := hid (HB1.out.trans (hB2.mono HB1.out.size)); clear hB2)
      | fail)
    go_ret
    exact ⟨rfl, HB2.out⟩
  have hn1 : ¬ ((100 : Int) < n) := by omega
  clear hlv1
  have hof := rOf (HS.out.on HB1.out) (by rw [List.length_map]; have := HL40.out; omega)
  have HHL : Hid (had.length ≤ 10000) := hid (by rw [← HNL.out]; omega)
  go_upto_region 5 with (first
    | (go_at_call 7; refine hof.mono ?_; clear hof; rintro e w2 ⟨vm, rfl, hm, hB2⟩; have HM2 : Hid (SlE w2 vm (evs l)) := hid (hm.slG kE); obtain ⟨gm, cm, nm, rfl, hnm⟩ := hm.asSlice; have HNM : Hid (nm = l.length) := hid (by rw [hnm, List.length_map]); clear hnm; have HB2 := hid (HB1.out.trans (hB2.mono HB1.out.size)); clear hm hB2)
    | fail)
  obtain ⟨o, ho⟩ : ∃ z, z = nextN l had := ⟨_, rfl⟩
  obtain ⟨c, hc⟩ : ∃ z, z = nextC l o := ⟨_, rfl⟩
  obtain ⟨ok, hok⟩ : ∃ z, z = o.isSome := ⟨_, rfl⟩
  have hnx := HNX.out (HS.out.on HB2.out) (HA.out.on HB2.out) HSH.out (by have := HL40.out; omega) (HH.out.on HB2.out) HHL.out HWF.out o ho c hc ok hok
  have HO := hid ho
  have HC := hid hc
  have HOK := hid hok
  clear ho hc hok
  go_upto_region 6 with (first
    | (go_at_call 8; refine hnx.mono ?_; clear hnx; rintro e w3 ⟨rfl, hB3⟩; have HM3 := hid (HM2.out.on hB3); have HB3 := hid (HB2.out.trans (hB3.mono HB2.out.size)); clear hB3)
    | fail)
  have HBX : Hid (Below w3.heap.size w3 (w3.alloc (.cells #[.int .i64 c.i, .int .i64 c.k, .int .i64 c.s, .int .i64 c.t, .int .i64 c.d, .int .i64 c.p, .int .i64 c.q] 31))) := hid ((Below.refl _ w3).alloc (Nat.le_refl _) _)
  have HX : Hid (BoxC (w3.alloc (.cells #[.int .i64 c.i, .int .i64 c.k, .int .i64 c.s, .int .i64 c.t, .int .i64 c.d, .int .i64 c.p, .int .i64 c.q] 31)) w3.heap.size c) := hid (heap_alloc_new w3 _)
  generalize w3.alloc (.cells #[.int .i64 c.i, .int .i64 c.k, .int .i64 c.s, .int .i64 c.t, .int .i64 c.d, .int .i64 c.p, .int .i64 c.q] 31) = W4 at HBX HX ⊢
  have HB4 := hid (HB3.out.trans (HBX.out.mono HB3.out.size))
  have HM4 := hid (HM3.out.on HBX.out)
  have hrn := rNextE HM4.out (HA.out.on HB4.out) HSH.out (by have := HL40.out; omega) (HH.out.on HB4.out).1 (by have := HHL.out; omega) HO.out
  go_upto_region 7 with (first
    | (go_at_call 9; refine hrn.mono ?_; clear hrn; rintro e w5 ⟨rfl, hB5⟩; have HM5 := hid (HM4.out.on hB5); have HX5 := hid (HX.out.on hB5); have HB5 := hid (HB4.out.trans (hB5.mono HB4.out.size)); clear hB5)
    | fail)
  obtain ⟨d0, d1, d2, d3, d4, d5, d6⟩ := HX5.out.cells
  have key : ∀ W6, Below w5.heap.size w5 W6 → True := fun _ _ => trivial
  rcases o with _ | i
  · have hn0 : optI none = -1 := rfl
    rw [hn0]
    obtain rfl : ok = false := HOK.out
    obtain rfl : c = zC7 := HC.out
    have hE : ∀ w, Sem.run Try.prog (binOp .neq 31 (cmV 0 0 0 0 0 0 0) (cmV 0 0 0 0 0 0 0)) w = .ok (.bool false) w := neqC (a := zC7) (b := zC7) (r := true) (C7.same_iff.2 rfl)
    have hG : ∀ op p q W, Sem.run Try.prog (eqGuard op 31 p q (cmV 0 0 0 0 0 0 0) (cmV 0 0 0 0 0 0 0)) W = .ok () W := fun op p q W => guardC op p q zC7 zC7 W
    simp only [zC7] at d0 d1 d2 d3 d4 d5 d6
    go_quiet (fail)
    have HBQ : Hid (Below w5.heap.size w5 (w5.drewN nq)) := hid (Below.drewN' (Below.refl _ _) _)
    generalize w5.drewN nq = w6 at HBQ ⊢
    have HB6 := hid (HB5.out.trans (HBQ.out.mono HB5.out.size))
    have HM6 := hid (HM5.out.on HBQ.out)
    have hA1 := HAL.out (HS.out.on HB6.out) (HA.out.on HB6.out) HSH.out (by have := HL40.out; omega) (HH.out.on HB6.out) HHL.out HWF.out
    go_wp2_with (first
      | (go_at_call 11; refine hA1.mono ?_; clear hA1; rintro e w7 ⟨r1, rfl, ho1, hB7⟩; have HM7 := hid (HM6.out.on hB7); have HB7 := hid (HB6.out.trans (hB7.mono HB6.out.size)); have HO7 := hid ho1; clear ho1 hB7; have hA2 := rAllE HM7.out (HA.out.on HB7.out) HSH.out (by have := HL40.out; omega) (HH.out.on HB7.out) HHL.out)
      | (go_at_call 12; refine hA2.mono ?_; clear hA2; rintro e w8 ⟨r2, rfl, ho2, hB8⟩; have HM8 := hid (HM7.out.on hB8); have HB8 := hid (HB7.out.trans (hB8.mono HB7.out.size)); have HO8 := hid (HO7.out.sl.on hB8); have HP8 := hid ho2.sl; clear ho2 hB8; have hA3 := rSame HO8.out HP8.out (by have := allF_le l had; have := HL40.out; omega) (by have := allF_le l had; have := HL40.out; omega); rw [show sameB (allF l had) (allF l had) = true from decide_eq_true rfl] at hA3)
      | (go_at_call 10; refine hA3.mono ?_; clear hA3; rintro e w9 ⟨rfl, hB9⟩; have HM9 := hid (HM8.out.on hB9); have HB9 := hid (HB8.out.trans (hB9.mono HB8.out.size)); clear hB9; have hW1 := HWA.out (HS.out.on HB9.out) (HA.out.on HB9.out) HSH.out (by have := HL40.out; omega) (HH.out.on HB9.out) HHL.out HWF.out)
      | (go_at_call 14; refine hW1.mono ?_; clear hW1; rintro e wa ⟨r3, rfl, ho3, hBa⟩; have HMa := hid (HM9.out.on hBa); have HBa := hid (HB9.out.trans (hBa.mono HB9.out.size)); have HOa := hid ho3; clear ho3 hBa; have hW2 := rWaitsE HMa.out (HA.out.on HBa.out) HSH.out (by have := HL40.out; omega) (HH.out.on HBa.out) HHL.out)
      | (go_at_call 15; refine hW2.mono ?_; clear hW2; rintro e wb ⟨r4, rfl, ho4, hBb⟩; have HBb := hid (HBa.out.trans (hBb.mono HBa.out.size)); have HOb := hid (HOa.out.sl.on hBb); have HPb := hid ho4.sl; clear ho4 hBb; have hW3 := rSameIds HOb.out HPb.out (by have := waitsUp_len (l := l) (h := had ++ idsL (allF l had)) l.length; have := HL40.out; unfold waitsF; omega))
      | (go_at_call 13; refine hW3.mono ?_; clear hW3; rintro e wc ⟨rfl, hBc⟩; have HBc := hid (HBb.out.trans (hBc.mono HBb.out.size)); clear hBc; have hLV := HLV.out wc)
      | (go_at_call 6; refine hLV.mono ?_; clear hLV; rintro e wd ⟨rfl, hBd⟩; have HBd := hid (HBc.out.trans (hBd.mono HBc.out.size)); clear hBd)
      | fail)
    go_ret
    exact ⟨rfl, HBd.out⟩
  · have hn1 : optI (some i) = (i : Int) := rfl
    rw [hn1]
    obtain rfl : ok = true := HOK.out
    obtain ⟨hil, x, hx, _⟩ := nextN_some HO.out.symm
    have HCX : Hid (x.e.c = c) := hid (by rw [HC.out]; exact (nextC_some hx).symm)
    obtain ⟨b6, o6, cap6, a6, e6, ha6, hc6, hb6⟩ := HM5.out
    injection e6 with e7 e8 e9
    have him : ((i : Int) < nm) := by have := HNM.out; omega
    have hi0 : decide (((0 : Int)) ≤ i) = true := decide_eq_true (by omega)
    have ha7 := ha6 (by rw [List.length_map]; omega)
    obtain rfl := e7.trans ha7
    obtain ⟨f0, f1, f2, f3, f4, f5, f6⟩ := cmd_range (hc6 i x.e (at_evs hx))
    rw [HCX.out] at f0 f1 f2 f3 f4 f5 f6
    have hE : ∀ w, Sem.run Try.prog (binOp .neq 31 c.v c.v) w = .ok (.bool false) w := neqC (C7.same_iff.2 rfl)
    have hG : ∀ op p q W, Sem.run Try.prog (eqGuard op 31 p q c.v c.v) W = .ok () W := fun op p q W => guardC op p q c c W
    clear hx hil ha7 hc6 hb6 e7 e8 e9 ha6
    go_quiet (fail)
    have HBQ : Hid (Below w5.heap.size w5 (w5.drewN nq)) := hid (Below.drewN' (Below.refl _ _) _)
    generalize w5.drewN nq = w6 at HBQ ⊢
    have HB6 := hid (HB5.out.trans (HBQ.out.mono HB5.out.size))
    have HM6 := hid (HM5.out.on HBQ.out)
    have hA1 := HAL.out (HS.out.on HB6.out) (HA.out.on HB6.out) HSH.out (by have := HL40.out; omega) (HH.out.on HB6.out) HHL.out HWF.out
    go_wp2_with (first
      | (go_at_call 11; refine hA1.mono ?_; clear hA1; rintro e w7 ⟨r1, rfl, ho1, hB7⟩; have HM7 := hid (HM6.out.on hB7); have HB7 := hid (HB6.out.trans (hB7.mono HB6.out.size)); have HO7 := hid ho1; clear ho1 hB7; have hA2 := rAllE HM7.out (HA.out.on HB7.out) HSH.out (by have := HL40.out; omega) (HH.out.on HB7.out) HHL.out)
      | (go_at_call 12; refine hA2.mono ?_; clear hA2; rintro e w8 ⟨r2, rfl, ho2, hB8⟩; have HM8 := hid (HM7.out.on hB8); have HB8 := hid (HB7.out.trans (hB8.mono HB7.out.size)); have HO8 := hid (HO7.out.sl.on hB8); have HP8 := hid ho2.sl; clear ho2 hB8; have hA3 := rSame HO8.out HP8.out (by have := allF_le l had; have := HL40.out; omega) (by have := allF_le l had; have := HL40.out; omega); rw [show sameB (allF l had) (allF l had) = true from decide_eq_true rfl] at hA3)
      | (go_at_call 10; refine hA3.mono ?_; clear hA3; rintro e w9 ⟨rfl, hB9⟩; have HM9 := hid (HM8.out.on hB9); have HB9 := hid (HB8.out.trans (hB9.mono HB8.out.size)); clear hB9; have hW1 := HWA.out (HS.out.on HB9.out) (HA.out.on HB9.out) HSH.out (by have := HL40.out; omega) (HH.out.on HB9.out) HHL.out HWF.out)
      | (go_at_call 14; refine hW1.mono ?_; clear hW1; rintro e wa ⟨r3, rfl, ho3, hBa⟩; have HMa := hid (HM9.out.on hBa); have HBa := hid (HB9.out.trans (hBa.mono HB9.out.size)); have HOa := hid ho3; clear ho3 hBa; have hW2 := rWaitsE HMa.out (HA.out.on HBa.out) HSH.out (by have := HL40.out; omega) (HH.out.on HBa.out) HHL.out)
      | (go_at_call 15; refine hW2.mono ?_; clear hW2; rintro e wb ⟨r4, rfl, ho4, hBb⟩; have HBb := hid (HBa.out.trans (hBb.mono HBa.out.size)); have HOb := hid (HOa.out.sl.on hBb); have HPb := hid ho4.sl; clear ho4 hBb; have hW3 := rSameIds HOb.out HPb.out (by have := waitsUp_len (l := l) (h := had ++ idsL (allF l had)) l.length; have := HL40.out; unfold waitsF; omega))
      | (go_at_call 13; refine hW3.mono ?_; clear hW3; rintro e wc ⟨rfl, hBc⟩; have HBc := hid (HBb.out.trans (hBc.mono HBb.out.size)); clear hBc; have hLV := HLV.out wc)
      | (go_at_call 6; refine hLV.mono ?_; clear hLV; rintro e wd ⟨rfl, hBd⟩; have HBd := hid (HBc.out.trans (hBd.mono HBc.out.size)); clear hBd)
      | fail)
    go_ret
    exact ⟨rfl, HBd.out⟩
end Go.Proofs.Ytmggggijamligaa
namespace Go.Proofs.Ytmggggijamligaa
set_option linter.unusedVariables false
open Go.RowKit
open Go.Lib (hid)
def aA : C7 := ⟨16, 1, 0, 17, 0, 0, 0⟩
def aB : C7 := ⟨17, 1, 0, 16, 0, 0, 0⟩
def liveE (c : C7) (t : Int) (p : Sv) : Ev := ⟨c, 0, 0, 0, 0, ⟨none, 0, 0⟩, 0, 0, ⟨none, 0, 0⟩, false, true, t, p⟩
def live0 (p : Sv) : En := ⟨liveE aA 48 p, [], [], [aB]⟩
def live1 (p : Sv) : En := ⟨liveE aB 33 p, [], [], [aA]⟩
theorem live_all (p q : Sv) : allF [live0 p, live1 q] [] = [aB, aA] := by kernel_rfl
theorem live_next (p q : Sv) : nextN [live0 p, live1 q] [17] = some 0 := by kernel_rfl
theorem live_waits (p : Sv) : waitsF [live0 p] [] = [16] := by kernel_rfl
theorem laid_any {P : Program} {c : Code} {Q : Exit → Act → World → Prop} {a : Act} (w : World) (o0 o1 o2 o3 o4 : Obj) (h : ∀ W, Below w.heap.size w W → W.heap[w.heap.size]? = some o0 → W.heap[w.heap.size + 1]? = some o1 → W.heap[w.heap.size + 1 + 1]? = some o2 → W.heap[w.heap.size + 1 + 1 + 1]? = some o3 → W.heap[w.heap.size + 1 + 1 + 1 + 1]? = some o4 → Code.wp P c Q a W) : Code.wp P c Q a (((((w.alloc o0).alloc o1).alloc o2).alloc o3).alloc o4) :=
  h _ (laid5_b w o0 o1 o2 o3 o4) (laid5_0 w o0 o1 o2 o3 o4) (laid5_1 w o0 o1 o2 o3 o4) (laid5_2 w o0 o1 o2 o3 o4) (laid5_3 w o0 o1 o2 o3 o4) (laid5_4 w o0 o1 o2 o3 o4)
theorem slE_of {w : World} {g n cap : Nat} {cur : Array Value} {T : TypeId} {es : List Ev} {more : List Value} (h : w.heap[g]? = some (.cells cur T (0, 0))) (hc : cur.toList = flatG Ev.list es ++ more) (hn : n = es.length) : SlE w (.slice (some ⟨g, 0, none⟩) n cap) es := by
  refine ⟨g, 0, cap, _, by rw [hn], fun _ => rfl, fun j x hx f v hv => ?_, fun _ => (Array.getElem?_eq_some_iff.1 h).1⟩
  have h2 := flatG_at kE es j x hx f v hv
  rw [show 0 + j * 19 + f = j * 19 + f by omega, cellAt' h, ← Array.getElem?_toList, hc, List.getElem?_append_left (List.getElem?_eq_some_iff.1 h2).1]
  exact h2
theorem sl_one {w : World} {g : Nat} {c : C7} (h : BoxC w g c) : Sl w (.slice (some ⟨g, 0, none⟩) 1 1) [c] := by
  refine ⟨g, 0, 1, _, rfl, (fun e => by cases e), fun _ => rfl, fun j d hj f v hv => ?_, fun _ => (Array.getElem?_eq_some_iff.1 h).1⟩
  rcases j with _ | j
  · simp at hj; subst hj
    show w.cell? ⟨g, 0 + (0 * 7 + f), none⟩ = some v
    have e : 0 + (0 * 7 + f) = f := by omega
    rw [e, cellAt' h f, ← Array.getElem?_toList]
    exact hv
  · simp at hj
theorem slS_nil (w : World) : SlS w (.slice none 0 0) [] := ⟨(OwnI.nil w 0).sl, .inl rfl⟩
theorem slI_one {w : World} {v : Value} {x : Int} (h : SlI w v [x]) : ∃ b o cap, v = .slice (some ⟨b, o, none⟩) 1 cap ∧ w.cell? ⟨b, o, none⟩ = some (.int .i64 x) := by
  obtain ⟨b, o, cap, a, rfl, ha, hc, _⟩ := h
  obtain rfl := ha (by simp)
  exact ⟨b, o, cap, rfl, hc 0 x rfl⟩
theorem sl_two {w : World} {v : Value} {c d : C7} (h : Sl w v [c, d]) : ∃ b o cap, v = .slice (some ⟨b, o, none⟩) 2 cap ∧ CmdR w b o c := by
  obtain ⟨b, o, cap, a, rfl, _, ha, hc, _⟩ := h
  obtain rfl := ha (by simp)
  have h0 := hc 0 c rfl
  have e : ∀ f, o + (0 * 7 + f) = o + f := fun f => by omega
  refine ⟨b, o, cap, rfl, ?_, ?_, ?_, ?_, ?_, ?_, ?_⟩
  · exact h0 0 _ rfl
  · have := h0 1 _ rfl; rw [e] at this; exact this
  · have := h0 2 _ rfl; rw [e] at this; exact this
  · have := h0 3 _ rfl; rw [e] at this; exact this
  · have := h0 4 _ rfl; rw [e] at this; exact this
  · have := h0 5 _ rfl; rw [e] at this; exact this
  · have := h0 6 _ rfl; rw [e] at this; exact this
theorem live_at {w : World} {g h : Nat} {p q : Sv} (hp : p.v = .slice (some ⟨g, 0, none⟩) 1 1) (hq : q.v = .slice (some ⟨h, 0, none⟩) 1 1) (hg : BoxC w g aB) (hh : BoxC w h aA) : AllAt w [live0 p, live1 q] := fun x hx => by
  simp only [List.mem_cons, List.not_mem_nil, or_false] at hx
  rcases hx with rfl | rfl
  · exact ⟨(Own.nil w 0).sl, (Own.nil w 0).sl, by show Sl w p.v _; rw [hp]; exact sl_one hg⟩
  · exact ⟨(Own.nil w 0).sl, (Own.nil w 0).sl, by show Sl w q.v _; rw [hq]; exact sl_one hh⟩
theorem live_short {p q : Sv} : ∀ y ∈ [live0 p, live1 q], y.short 100 := fun x hx => by
  simp only [List.mem_cons, List.not_mem_nil, or_false] at hx
  rcases hx with rfl | rfl <;> exact ⟨Nat.zero_le _, Nat.zero_le _, (by show 1 ≤ 100; decide)⟩
theorem live_wf (p q : Sv) {had : List Int} (h : ∀ x ∈ had, wfI x) : WfA [live0 p, live1 q] had := by
  refine ⟨fun y hy => ?_, h⟩
  simp only [List.mem_cons, List.not_mem_nil, or_false] at hy
  rcases hy with rfl | rfl
  · refine ⟨(show wfI aA.i from wfI_of (by decide)), fun c hc => ?_⟩
    have : c = aB := by simpa [live0] using hc
    subst this; exact wfI_of (by decide)
  · refine ⟨(show wfI aB.i from wfI_of (by decide)), fun c hc => ?_⟩
    have : c = aA := by simpa [live1] using hc
    subst this; exact wfI_of (by decide)
theorem live_short1 {p : Sv} : ∀ y ∈ [live0 p], y.short 100 := fun x hx => by
  simp only [List.mem_cons, List.not_mem_nil, or_false] at hx
  subst hx
  exact ⟨Nat.zero_le _, Nat.zero_le _, (by show 1 ≤ 100; decide)⟩
end Go.Proofs.Ytmggggijamligaa
