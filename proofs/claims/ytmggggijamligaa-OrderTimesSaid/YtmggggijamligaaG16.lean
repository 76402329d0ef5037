import Derived.Test.YtmggggijamligaaG15
import Derived.Test.YtmggggijamligaaG03
namespace Go.Proofs.Ytmggggijamligaa
set_option linter.unusedVariables false
open Go.RowKit
open Go.Lib (hid)
theorem fin_start {W0 w : World} {p : Rv} {l : List En} {had : List Int} (h : Started W0 w p l had) : ∃ st bh tu, Fin W0 w p l had st bh tu [] := by
  obtain ⟨st, bh, tu, h1, h2, h3, h4, h5, _, h7⟩ := h
  have e : had ++ idsL [] = had := List.append_nil _
  exact ⟨st, bh, tu, h1, by rw [e]; exact h3, h4, h5, h2, by rw [e]; exact h7, by rw [e]; exact told_start l had, by rw [e]; rfl, by rw [e]; have := leftN_le l had; simp only [List.length_nil]; omega⟩
theorem fin_end {W0 w : World} {p : Rv} {l : List En} {had st : List Int} {bh : Int → List Int} {tl : List C7} (h : Fin W0 w p l had st bh [] tl) : nextN l (had ++ idsL tl) = none ∧ tl = allF l had := by
  have hn : nextN l (had ++ idsL tl) = none := next_of_none fun j x hx => by
    rcases e : readyB l (had ++ idsL tl) j x with _ | _
    · rfl
    · have := (h.tu.2 x.e.vt j).2 ⟨x, hx, rfl, e⟩
      cases this
  refine ⟨hn, ?_⟩
  have := h.all
  rw [allF_none hn, List.append_nil] at this
  exact this
set_option maxHeartbeats 4000000 in
set_option maxRecDepth 100000 in
theorem allOK : AllOK := by
  intro v vh l had w h hA hs hl hh hhl hWf
  have hlook := cLook h hl hh.1 hhl hWf
  have HH := hid h
  have HA := hid hA
  have HS := hid hs
  have HL := hid hl
  have HW := hid hWf
  obtain ⟨b, o, cap, a, hv, ha, hc, hb⟩ := h
  subst hv
  have hlm : (evs l).length = l.length := List.length_map ..
  rw [hlm] at hlook HH ⊢
  clear ha hc hb hlm hA hs hh hhl hWf
  go_enter Try.func11, Try.ntmps11
  go_upto_region 2 with (first
    | (go_at_call 20; refine hlook.mono ?_; clear hlook; rintro e w1 ⟨F, H, rfl, hF, hH, hF1, hH1, hB1⟩; have HV : Hid (Vw w1 (.slice a l.length cap) F H l.length had.length l had) := hid ⟨HH.out.on hB1, HA.out.on hB1, hF, hH, HW.out⟩; have HB1 := hid hB1; clear hF hH hF1 hH1 hB1)
    | (go_at_call 24; refine (cStart HV.out HL.out HS.out).mono ?_; rintro e w2 ⟨p, he, hp⟩; obtain ⟨PR, hPR⟩ : ∃ z, z = p.R := ⟨_, rfl⟩; rw [← hPR] at he; subst he; have HP := hid (fin_start hp); have HPR := hid hPR; clear hp hPR)
    | fail)
  obtain ⟨st, bh, tu, hf⟩ := HP.out
  have hfin := cFinish hf HL.out HS.out
  have HBX : Hid (Below w.heap.size w (w1.alloc (.cells (vwC (.slice a l.length cap) F H) 63))) := hid (HB1.out.alloc HB1.out.size _)
  generalize w1.alloc (.cells (vwC (.slice a l.length cap) F H) 63) = w0 at hfin HBX
  rw [← HPR.out] at hfin
  clear hf HP
  go_upto_region 3 with (first
    | (go_at_call 25; refine hfin.mono ?_; clear hfin; rintro e w3 ⟨rfl, p3, st3, tl, h1, h2⟩; have K1 := hid h1; have K2 := hid h2; clear h1 h2)
    | fail)
  obtain ⟨oa, on, oc, hov⟩ : ∃ oa on oc, p3.ov = .slice oa on oc := by
    rcases K2.out.rn.td.shape with ⟨e, _⟩ | ⟨g, cap, e, _⟩
    · exact ⟨_, _, _, e⟩
    · exact ⟨_, _, _, e⟩
  have s6 : w3.cell? ⟨PR, 6, none⟩ = some (.slice oa on oc) := by rw [← K1.out, ← hov]; exact K2.out.rn.cell rfl
  have HOV := hid hov
  clear hov
  go_wp2_with fail
  go_ret
  refine ⟨_, rfl, ?_, ?_⟩
  · show Own w3 w.heap.size (.slice oa on oc) (allF l had)
    rw [← HOV.out, ← (fin_end K2.out).2]
    exact own_monoB K2.out.rn.td HBX.out.size
  · exact HBX.out.trans (K2.out.rn.sd.bel.mono HBX.out.size)
end Go.Proofs.Ytmggggijamligaa
namespace Go.Proofs.Ytmggggijamligaa
set_option linter.unusedVariables false
open Go.RowKit
open Go.Lib (hid)
set_option maxHeartbeats 4000000 in
set_option maxRecDepth 100000 in
theorem waitsOK : WaitsOK := by
  intro v vh l had w h hA hs hl hh hhl hWf
  have hlook := cLook h hl hh.1 hhl hWf
  have HH := hid h
  have HA := hid hA
  have HS := hid hs
  have HL := hid hl
  have HW := hid hWf
  obtain ⟨b, o, cap, a, hv, ha, hc, hb⟩ := h
  subst hv
  have hlm : (evs l).length = l.length := List.length_map ..
  rw [hlm] at hlook HH ha hb ⊢
  obtain ⟨m, hm⟩ : ∃ m, m = l.length := ⟨_, rfl⟩
  have HM := hid hm
  have HCC := hid hc
  rw [← hm] at hlook HH ha hb hl ⊢
  clear hc hlm hA hs hh hhl hWf hm
  go_enter Try.func14, Try.ntmps14
  go_upto_region 2 with (first
    | (go_at_call 20; refine hlook.mono ?_; clear hlook; rintro e w1 ⟨F, H, rfl, hF, hH, hF1, hH1, hB1⟩; have HV : Hid (Vw w1 (.slice a m cap) F H m had.length l had) := hid ⟨HH.out.on hB1, HA.out.on hB1, hF, hH, HW.out⟩; have HB1 := hid hB1; clear hF hH hF1 hH1 hB1)
    | (go_at_call 24; refine (cStart HV.out HL.out HS.out).mono ?_; rintro e w2 ⟨p, he, hp⟩; obtain ⟨PR, hPR⟩ : ∃ z, z = p.R := ⟨_, rfl⟩; rw [← hPR] at he; subst he; have HP := hid (fin_start hp); have HPR := hid hPR; clear hp hPR)
    | fail)
  obtain ⟨st, bh, tu, hf⟩ := HP.out
  have hfin := cFinish hf HL.out HS.out
  have HBX : Hid (Below w.heap.size w (w1.alloc (.cells (vwC (.slice a m cap) F H) 63))) := hid (HB1.out.alloc HB1.out.size _)
  generalize w1.alloc (.cells (vwC (.slice a m cap) F H) 63) = w0 at hfin HBX
  rw [← HPR.out] at hfin
  clear hf HP
  go_upto_region 3 with (first
    | (go_at_call 25; refine hfin.mono ?_; clear hfin; rintro e w3 ⟨rfl, p3, st3, tl, h1, h2⟩; have K1 := hid h1; have K2 := hid h2; clear h1 h2)
    | fail)
  obtain ⟨hs, hHS⟩ : ∃ z, z = had ++ idsL tl := ⟨_, rfl⟩
  have HEN : Hid (nextN l hs = none ∧ tl = allF l had) := hid (by rw [hHS]; exact fin_end K2.out)
  have HST : Hid (StG l (cntAt l had hs) st3) := hid (by rw [hHS]; exact K2.out.st)
  have HTO : Hid (ToldOK l had hs) := hid (by rw [hHS]; exact K2.out.tol)
  have HHS := hid hHS
  have HBW : Hid (Below w.heap.size w w3) := hid (HBX.out.trans (K2.out.rn.sd.bel.mono HBX.out.size))
  clear hHS
  go_wp2_with fail
  go_loopw [6, 16] (fun s6 s16 wr => ∃ (k : Nat) (u : List Int), k ≤ m ∧ s16 = .int .i64 k ∧ Hid (OwnI wr w3.heap.size s6 u) ∧ Hid (u = waitsUp l hs k) ∧ Hid (Below w3.heap.size w3 wr)) (fun _ s16 _ => m - (RowKit.intOf s16).toNat)
  case atStart => exact ⟨0, [], Nat.zero_le _, rfl, hid (OwnI.nil _ _), hid rfl, hid (Below.refl _ _)⟩
  case round =>
    obtain ⟨k, u, hk, rfl, HU, HUE, HBQ⟩ := hrel
    obtain ⟨g8, c8, n8, rfl, -⟩ := HU.out.asSlice
    by_cases hlt : k < m
    · have hlti : ((k : Int) < m) := by omega
      obtain rfl := ha (by omega)
      have hbw := hb (by omega)
      obtain ⟨x, hx⟩ : ∃ x, l[k]? = some x := ⟨l[k]'(by rw [← HM.out]; exact hlt), List.getElem?_eq_getElem (by rw [← HM.out]; exact hlt)⟩
      have HX := hid hx
      have HRN := hid (K2.out.rn.on HBQ.out)
      have hsl : st3.length = m := by rw [HST.out.1, HM.out]
      obtain ⟨g, gcap, hsv, hgw, hsc, hsf⟩ := HRN.out.svs (by omega)
      rw [hsl] at hsv
      obtain ⟨cv, hcv⟩ : ∃ z, z = cntO l had hs k x := ⟨_, rfl⟩
      have s1 : wr.cell? ⟨PR, 3, none⟩ = some (.slice (some ⟨g, 0, none⟩) m gcap) := by rw [← K1.out, ← hsv]; exact HRN.out.cell rfl
      have sc : wr.cell? ⟨g, k, none⟩ = some (.int .i64 (cv : Int)) := hsc k _ (by rw [HST.out.2 k (by rw [← HM.out]; exact hlt), cntAt_some hx, ← hcv])
      have HEW : Hid (waitB l hs k x = decide (0 < cv)) := hid (by rw [hcv]; exact end_waits HTO.out HEN.out.1 hx)
      obtain ⟨xi, hxi⟩ : ∃ z, z = x.id := ⟨_, rfl⟩
      have HXI := hid hxi
      have c0 : wr.cell? ⟨b, o + k * 19, none⟩ = some (.int .i64 xi) := ((HBW.out.trans (HBQ.out.mono HBW.out.size)).cell hbw).trans (by rw [hxi]; exact HCC.out k x.e (at_evs hx) 0 _ rfl)
      have HUL : Hid (u.length ≤ 1000) := hid (by have := HUE.out; have h2 := waitsUp_len (l := l) (h := hs) k; rw [← this] at h2; omega)
      clear hsc hsf hsv hcv hx hxi hsl
      rcases Nat.eq_zero_or_pos cv with hz | hz
      · subst hz
        go_wp2_with fail
        go_roundw
        case rel => exact ⟨k + 1, u, by omega, by go_num, HU, hid (wait_keep HX.out HUE.out (by rw [HEW.out]; rfl)), HBQ⟩
        case measure => first | omega | (simp [RowKit.intOf]; omega)
      · have hzi : (0 : Int) < cv := by omega
        have tk3 : Hid (1 = 1) := hid rfl
        go_wp2_with (first
          | (clear tk3; at_builtin; refine wpList_append_ii rfl _ _ rfl w3.heap.size _ u rfl (HU.out.on ((Below.refl _ _).alloc (Nat.le_refl _) _)) _ [xi] rfl (OwnI.one _ xi) (by have := HUL.out; simp only [List.length_singleton]; omega) (by have := HBQ.out.size; simp; omega) ?_; intro v4 w4 hown4 hgrow4; have HB4 : Hid (Below w3.heap.size w3 w4) := hid ((HBQ.out.alloc HBQ.out.size _).grown hgrow4 (by have := HBQ.out.size; simp; omega) (fun k hk => (HU.out.lt k hk).1)); have HU4 := hid hown4; clear hown4 hgrow4)
          | fail)
        go_roundw
        case rel => exact ⟨k + 1, u ++ [xi], by omega, by go_num, HU4, hid (by rw [HXI.out]; exact wait_take HX.out HUE.out (by rw [HEW.out, decide_eq_true hz])), HB4⟩
        case measure => first | omega | (simp [RowKit.intOf]; omega)
    · have hlti : ¬ ((k : Int) < m) := by omega
      have hkm : k = m := by omega
      have HRE : Hid (u = waitsF l had) := hid (by rw [HUE.out, hkm, HM.out, HHS.out, HEN.out.2]; rfl)
      go_wp2_with fail
      go_ret
      exact ⟨_, rfl, by rw [← HRE.out]; exact own_monoB HU.out HBW.out.size, HBW.out.trans (HBQ.out.mono HBW.out.size)⟩
end Go.Proofs.Ytmggggijamligaa
namespace Go.Proofs.Ytmggggijamligaa
set_option linter.unusedVariables false
open Go.RowKit
open Go.Lib (hid)
def BoxC (w : World) (q : Nat) (c : C7) : Prop := w.heap[q]? = some (.cells #[.int .i64 c.i, .int .i64 c.k, .int .i64 c.s, .int .i64 c.t, .int .i64 c.d, .int .i64 c.p, .int .i64 c.q] 31 (0, 0))
theorem BoxC.on {w w' : World} {q : Nat} {c : C7} (h : BoxC w q c) (hb : Below w.heap.size w w') : BoxC w' q c := (hb.block q (Array.getElem?_eq_some_iff.1 h).1).trans h
theorem BoxC.cells {w : World} {q : Nat} {c : C7} (h : BoxC w q c) : w.cell? ⟨q, 0, none⟩ = some (.int .i64 c.i) ∧ w.cell? ⟨q, 1, none⟩ = some (.int .i64 c.k) ∧ w.cell? ⟨q, 2, none⟩ = some (.int .i64 c.s) ∧ w.cell? ⟨q, 3, none⟩ = some (.int .i64 c.t) ∧ w.cell? ⟨q, 4, none⟩ = some (.int .i64 c.d) ∧ w.cell? ⟨q, 5, none⟩ = some (.int .i64 c.p) ∧ w.cell? ⟨q, 6, none⟩ = some (.int .i64 c.q) := by
  refine ⟨?_, ?_, ?_, ?_, ?_, ?_, ?_⟩ <;> (rw [cellAt' h]; rfl)
end Go.Proofs.Ytmggggijamligaa
namespace Go.Proofs.Ytmggggijamligaa
set_option linter.unusedVariables false
open Go.RowKit
open Go.Lib (hid)
def aA : C7 := ⟨16, 1, 0, 17, 0, 0, 0⟩
def aB : C7 := ⟨17, 1, 0, 16, 0, 0, 0⟩
def liveE (c : C7) (t : Int) (p : Sv) : Ev := ⟨c, 0, 0, 0, 0, ⟨none, 0, 0⟩, 0, 0, ⟨none, 0, 0⟩, false, true, t, p⟩
def live0 (p : Sv) : En := ⟨liveE aA 48 p, [], [], [aB]⟩
def live1 (p : Sv) : En := ⟨liveE aB 33 p, [], [], [aA]⟩
theorem live_all (p q : Sv) : allF [live0 p, live1 q] [] = [aB, aA] := by kernel_rfl
theorem live_next (p q : Sv) : nextN [live0 p, live1 q] [17] = some 0 := by kernel_rfl
theorem live_waits (p : Sv) : waitsF [live0 p] [] = [16] := by kernel_rfl
theorem laid_any {P : Program} {c : Code} {Q : Exit → Act → World → Prop} {a : Act} (w : World) (o0 o1 o2 o3 o4 : Obj) (h : ∀ W, Below w.heap.size w W → W.heap[w.heap.size]? = some o0 → W.heap[w.heap.size + 1]? = some o1 → W.heap[w.heap.size + 1 + 1]? = some o2 → W.heap[w.heap.size + 1 + 1 + 1]? = some o3 → W.heap[w.heap.size + 1 + 1 + 1 + 1]? = some o4 → Code.wp P c Q a W) : Code.wp P c Q a (((((w.alloc o0).alloc o1).alloc o2).alloc o3).alloc o4) :=
  h _ (laid5_b w o0 o1 o2 o3 o4) (laid5_0 w o0 o1 o2 o3 o4) (laid5_1 w o0 o1 o2 o3 o4) (laid5_2 w o0 o1 o2 o3 o4) (laid5_3 w o0 o1 o2 o3 o4) (laid5_4 w o0 o1 o2 o3 o4)
theorem slE_of {w : World} {g n cap : Nat} {cur : Array Value} {T : TypeId} {es : List Ev} {more : List Value} (h : w.heap[g]? = some (.cells cur T (0, 0))) (hc : cur.toList = flatG Ev.list es ++ more) (hn : n = es.length) : SlE w (.slice (some ⟨g, 0, none⟩) n cap) es := by
  refine ⟨g, 0, cap, _, by rw [hn], fun _ => rfl, fun j x hx f v hv => ?_, fun _ => (Array.getElem?_eq_some_iff.1 h).1⟩
  have h2 := flatG_at kE es j x hx f v hv
  rw [show 0 + j * 19 + f = j * 19 + f by omega, cellAt' h, ← Array.getElem?_toList, hc, List.getElem?_append_left (List.getElem?_eq_some_iff.1 h2).1]
  exact h2
theorem sl_one {w : World} {g : Nat} {c : C7} (h : BoxC w g c) : Sl w (.slice (some ⟨g, 0, none⟩) 1 1) [c] := by
  refine ⟨g, 0, 1, _, rfl, (fun e => by cases e), fun _ => rfl, fun j d hj f v hv => ?_, fun _ => (Array.getElem?_eq_some_iff.1 h).1⟩
  rcases j with _ | j
  · simp at hj; subst hj
    show w.cell? ⟨g, 0 + (0 * 7 + f), none⟩ = some v
    have e : 0 + (0 * 7 + f) = f := by omega
    rw [e, cellAt' h f, ← Array.getElem?_toList]
    exact hv
  · simp at hj
theorem slS_nil (w : World) : SlS w (.slice none 0 0) [] := ⟨(OwnI.nil w 0).sl, .inl rfl⟩
theorem slI_one {w : World} {v : Value} {x : Int} (h : SlI w v [x]) : ∃ b o cap, v = .slice (some ⟨b, o, none⟩) 1 cap ∧ w.cell? ⟨b, o, none⟩ = some (.int .i64 x) := by
  obtain ⟨b, o, cap, a, rfl, ha, hc, _⟩ := h
  obtain rfl := ha (by simp)
  exact ⟨b, o, cap, rfl, hc 0 x rfl⟩
theorem sl_two {w : World} {v : Value} {c d : C7} (h : Sl w v [c, d]) : ∃ b o cap, v = .slice (some ⟨b, o, none⟩) 2 cap ∧ CmdR w b o c := by
  obtain ⟨b, o, cap, a, rfl, _, ha, hc, _⟩ := h
  obtain rfl := ha (by simp)
  have h0 := hc 0 c rfl
  have e : ∀ f, o + (0 * 7 + f) = o + f := fun f => by omega
  refine ⟨b, o, cap, rfl, ?_, ?_, ?_, ?_, ?_, ?_, ?_⟩
  · exact h0 0 _ rfl
  · have := h0 1 _ rfl; rw [e] at this; exact this
  · have := h0 2 _ rfl; rw [e] at this; exact this
  · have := h0 3 _ rfl; rw [e] at this; exact this
  · have := h0 4 _ rfl; rw [e] at this; exact this
  · have := h0 5 _ rfl; rw [e] at this; exact this
  · have := h0 6 _ rfl; rw [e] at this; exact this
theorem live_at {w : World} {g h : Nat} {p q : Sv} (hp : p.v = .slice (some ⟨g, 0, none⟩) 1 1) (hq : q.v = .slice (some ⟨h, 0, none⟩) 1 1) (hg : BoxC w g aB) (hh : BoxC w h aA) : AllAt w [live0 p, live1 q] := fun x hx => by
  simp only [List.mem_cons, List.not_mem_nil, or_false] at hx
  rcases hx with rfl | rfl
  · exact ⟨(Own.nil w 0).sl, (Own.nil w 0).sl, by show Sl w p.v _; rw [hp]; exact sl_one hg⟩
  · exact ⟨(Own.nil w 0).sl, (Own.nil w 0).sl, by show Sl w q.v _; rw [hq]; exact sl_one hh⟩
theorem live_short {p q : Sv} : ∀ y ∈ [live0 p, live1 q], y.short 100 := fun x hx => by
  simp only [List.mem_cons, List.not_mem_nil, or_false] at hx
  rcases hx with rfl | rfl <;> exact ⟨Nat.zero_le _, Nat.zero_le _, (by show 1 ≤ 100; decide)⟩
theorem live_wf (p q : Sv) {had : List Int} (h : ∀ x ∈ had, wfI x) : WfA [live0 p, live1 q] had := by
  refine ⟨fun y hy => ?_, h⟩
  simp only [List.mem_cons, List.not_mem_nil, or_false] at hy
  rcases hy with rfl | rfl
  · refine ⟨(show wfI aA.i from wfI_of (by decide)), fun c hc => ?_⟩
    have : c = aB := by simpa [live0] using hc
    subst this; exact wfI_of (by decide)
  · refine ⟨(show wfI aB.i from wfI_of (by decide)), fun c hc => ?_⟩
    have : c = aA := by simpa [live1] using hc
    subst this; exact wfI_of (by decide)
theorem live_short1 {p : Sv} : ∀ y ∈ [live0 p], y.short 100 := fun x hx => by
  simp only [List.mem_cons, List.not_mem_nil, or_false] at hx
  subst hx
  exact ⟨Nat.zero_le _, Nat.zero_le _, (by show 1 ≤ 100; decide)⟩
end Go.Proofs.Ytmggggijamligaa
namespace Go.Proofs.Ytmggggijamligaa
set_option linter.unusedVariables false
open Go.RowKit
open Go.Lib (hid)
set_option maxHeartbeats 4000000 in
set_option maxRecDepth 100000 in
theorem aliveT (hNX : NextOK) (hAL : AllOK) (hWA : WaitsOK) : AliveOK := by
  intro w
  have HNX : Hid NextOK := hid hNX
  have HAL : Hid AllOK := hid hAL
  have HWA : Hid WaitsOK := hid hWA
  clear hNX hAL hWA
  go_enter Try.func6, Try.ntmps6
  go_upto_region 4 with fail
  refine laid_any w _ _ _ _ _ ?_
  intro W0 hB0 h0 h1 h2 h3 h4
  have HB0 := hid hB0
  have H0 : Hid (BoxC W0 (w.heap.size) aA) := hid h0
  have H1 : Hid (BoxC W0 (w.heap.size + 1) aB) := hid h1
  have H2 : Hid (BoxC W0 (w.heap.size + 1 + 1) aB) := hid h2
  have H3 : Hid (BoxC W0 (w.heap.size + 1 + 1 + 1) aA) := hid h3
  have H4 := hid h4
  clear hB0 h0 h1 h2 h3 h4
  obtain ⟨p, hp⟩ : ∃ p : Sv, p = ⟨some ⟨w.heap.size + 1 + 1, 0, none⟩, 1, 1⟩ := ⟨_, rfl⟩
  obtain ⟨q, hq⟩ : ∃ q : Sv, q = ⟨some ⟨w.heap.size + 1 + 1 + 1, 0, none⟩, 1, 1⟩ := ⟨_, rfl⟩
  have HS : Hid (SlE W0 (.slice (some ⟨w.heap.size + 1 + 1 + 1 + 1, 0, none⟩) 2 2) (evs [live0 p, live1 q])) := hid (slE_of (more := []) H4.out (by subst hp hq; rfl) rfl)
  have HT : Hid (SlE W0 (.slice (some ⟨w.heap.size + 1 + 1 + 1 + 1, 0, none⟩) 1 2) (evs [live0 p])) := hid (slE_of (more := (live1 q).e.list) H4.out (by subst hp hq; rfl) rfl)
  have HA : Hid (AllAt W0 [live0 p, live1 q]) := hid (live_at (by rw [hp]) (by rw [hq]) H2.out H3.out)
  have HA1 : Hid (AllAt W0 [live0 p]) := hid (fun x hx => HA.out x (by simp at hx; subst hx; simp))
  have hA1 := HAL.out HS.out HA.out live_short (by show 2 ≤ 1000; decide) (slS_nil W0) (by decide) (live_wf p q (by simp))
  rw [live_all] at hA1
  clear hp hq
  go_upto_region 5 with (first
    | (go_at_call 11; refine hA1.mono ?_; clear hA1; rintro e w1 ⟨r1, rfl, ho1, hB1⟩; have HB1 := hid hB1; have HO1 := hid ho1; clear ho1 hB1)
    | fail)
  have HBI : Hid (Below w1.heap.size w1 (w1.alloc (.cells #[.int .i64 17] 3))) := hid ((Below.refl _ w1).alloc (Nat.le_refl _) _)
  have HI : Hid (SlS (w1.alloc (.cells #[.int .i64 17] 3)) (.slice (some ⟨w1.heap.size, 0, none⟩) 1 1) [17]) := hid (OwnI.one w1 17)
  have HB2 : Hid (Below W0.heap.size W0 (w1.alloc (.cells #[.int .i64 17] 3))) := hid (HB1.out.trans (HBI.out.mono HB1.out.size))
  have hN := HNX.out (HS.out.on HB2.out) (HA.out.on HB2.out) live_short (by show 2 ≤ 1000; decide) HI.out (by decide) (live_wf p q (by intro x hx; simp at hx; subst hx; exact wfI_of (by decide))) (some 0) (live_next p q).symm aA rfl true rfl
  go_upto_region 6 with (first
    | (go_at_call 8; refine hN.mono ?_; clear hN; rintro e w3 ⟨rfl, hB3⟩; have HB3 := hid (HB2.out.trans (hB3.mono HB2.out.size)); have HO3 := hid ((HO1.out.onB HBI.out).onB hB3); clear hB3)
    | fail)
  have HBX : Hid (Below w3.heap.size w3 (w3.alloc (.cells #[.int .i64 aA.i, .int .i64 aA.k, .int .i64 aA.s, .int .i64 aA.t, .int .i64 aA.d, .int .i64 aA.p, .int .i64 aA.q] 31))) := hid ((Below.refl _ w3).alloc (Nat.le_refl _) _)
  have HX : Hid (BoxC (w3.alloc (.cells #[.int .i64 aA.i, .int .i64 aA.k, .int .i64 aA.s, .int .i64 aA.t, .int .i64 aA.d, .int .i64 aA.p, .int .i64 aA.q] 31)) w3.heap.size aA) := hid (heap_alloc_new w3 _)
  generalize w3.alloc (.cells #[.int .i64 aA.i, .int .i64 aA.k, .int .i64 aA.s, .int .i64 aA.t, .int .i64 aA.d, .int .i64 aA.p, .int .i64 aA.q] 31) = W4 at HBX HX ⊢
  have HB4 := hid (HB3.out.trans (HBX.out.mono HB3.out.size))
  have HO4 := hid (HO3.out.onB HBX.out)
  have hW := HWA.out (HT.out.on HB4.out) (HA1.out.on HB4.out) (live_short1 (p := p)) (by show 1 ≤ 1000; decide) (slS_nil W4) (by decide) ⟨fun y hy => (live_wf p q (had := []) (by simp)).1 y (by simp at hy; subst hy; simp), by simp⟩
  rw [live_waits] at hW
  go_upto_region 7 with (first
    | (go_at_call 14; refine hW.mono ?_; clear hW; rintro e w5 ⟨r3, rfl, ho5, hB5⟩; have HB5 := hid (HB4.out.trans (hB5.mono HB4.out.size)); have HO5 := hid (HO4.out.onB hB5); have HX5 := hid (HX.out.on hB5); have HR5 := hid ho5.sl; clear hB5 ho5)
    | fail)
  obtain ⟨bi, oi, ci, rfl, i0⟩ := slI_one HR5.out
  obtain ⟨bo, oo, co, rfl, a0, a1, a2, a3, a4, a5, a6⟩ := sl_two HO5.out.sl
  obtain ⟨b0, b1, b2, b3, b4, b5, b6⟩ := ((H1.out.on HB5.out)).cells
  obtain ⟨c0, c1, c2, c3, c4, c5, c6⟩ := HX5.out.cells
  obtain ⟨d0, d1, d2, d3, d4, d5, d6⟩ := ((H0.out.on HB5.out)).cells
  simp only [aA, aB] at a0 a1 a2 a3 a4 a5 a6 b0 b1 b2 b3 b4 b5 b6 c0 c1 c2 c3 c4 c5 c6 d0 d1 d2 d3 d4 d5 d6
  have hE1 : ∀ w, Sem.run Try.prog (binOp .eql 31 (cmV 17 1 0 16 0 0 0) (cmV 17 1 0 16 0 0 0)) w = .ok (.bool true) w := eqlC (a := aB) (b := aB) (C7.same_iff.2 rfl)
  have hE2 : ∀ w, Sem.run Try.prog (binOp .eql 31 (cmV 16 1 0 17 0 0 0) (cmV 16 1 0 17 0 0 0)) w = .ok (.bool true) w := eqlC (a := aA) (b := aA) (C7.same_iff.2 rfl)
  have hG1 : ∀ op p q W, Sem.run Try.prog (eqGuard op 31 p q (cmV 17 1 0 16 0 0 0) (cmV 17 1 0 16 0 0 0)) W = .ok () W := fun op p q W => guardC op p q aB aB W
  have hG2 : ∀ op p q W, Sem.run Try.prog (eqGuard op 31 p q (cmV 16 1 0 17 0 0 0) (cmV 16 1 0 17 0 0 0)) W = .ok () W := fun op p q W => guardC op p q aA aA W
  go_quiet (fail)
  go_wp2_with fail
  go_ret
  exact ⟨rfl, Below.drewN' (HB0.out.trans (HB5.out.mono HB0.out.size)) _⟩
end Go.Proofs.Ytmggggijamligaa
namespace Go.Proofs.Ytmggggijamligaa
set_option linter.unusedVariables false
open Go.RowKit
open Go.Lib (hid)
def ofS (s : Int) (cs : List C7) : List C7 := cs.filter fun c => decide (c.s = s)
theorem ofS_keep {s : Int} {cs : List C7} {k : Nat} {c : C7} (h : cs[k]? = some c) (hs : c.s = s) : ofS s (cs.take (k + 1)) = ofS s (cs.take k) ++ [c] := by
  unfold ofS
  rw [List.take_add_one, h, List.filter_append]
  simp [hs]
theorem ofS_drop {s : Int} {cs : List C7} {k : Nat} {c : C7} (h : cs[k]? = some c) (hs : ¬ c.s = s) : ofS s (cs.take (k + 1)) = ofS s (cs.take k) := by
  unfold ofS
  rw [List.take_add_one, h, List.filter_append]
  simp [hs]
theorem ofS_len (s : Int) (cs : List C7) (k : Nat) : (ofS s (cs.take k)).length ≤ k := Nat.le_trans (List.length_filter_le _ _) (by rw [List.length_take]; omega)
set_option maxHeartbeats 4000000 in
set_option maxRecDepth 100000 in
theorem cOfS {v : Value} {cs : List C7} {w : World} (h : Sl w v cs) (hl : cs.length ≤ 1000) (s : Int) : Calls Try.prog 17 #[v, .int .i64 s] w fun e w' => ∃ r, e = .returned r ∧ Own w' w.heap.size r (ofS s cs) ∧ Below w.heap.size w w' := by
  obtain ⟨b, o, cap, a, rfl, _, ha, hc, hb⟩ := h
  obtain ⟨n, hn⟩ : ∃ n, n = cs.length := ⟨_, rfl⟩
  rw [← hn] at ha hb hl ⊢
  have HN := hid hn
  have HCC := hid hc
  obtain ⟨i0, hi, hz0, hz1, hz2⟩ := info_parts Try.infoC
  have HIC := hid (And.intro hi (And.intro hz0 (And.intro hz1 hz2)))
  clear hn hc hi hz0 hz1 hz2
  go_enter Try.func17, Try.ntmps17
  go_wp2_with fail
  go_loopw [5, 6] (fun s5 s6 wr => ∃ (k : Nat), k ≤ n ∧ s6 = .int .i64 k ∧ Hid (Own wr w.heap.size s5 (ofS s (cs.take k))) ∧ Hid (Below w.heap.size w wr)) (fun _ s6 _ => n - (RowKit.intOf s6).toNat)
  case atStart => exact ⟨0, Nat.zero_le _, rfl, hid (Own.nil _ _), hid (Below.refl _ _)⟩
  case round =>
    obtain ⟨k, hk, rfl, HO, HB⟩ := hrel
    obtain ⟨g5, n5, c5, rfl, -⟩ := HO.out.asS
    by_cases hlt : k < n
    · have hlti : ((k : Int) < n) := by omega
      obtain rfl := ha (by omega)
      have hbw := hb (by omega)
      obtain ⟨c, hcc⟩ : ∃ c, cs[k]? = some c := ⟨cs[k]'(by rw [← HN.out]; exact hlt), List.getElem?_eq_getElem (by rw [← HN.out]; exact hlt)⟩
      obtain ⟨c0, c1, c2, c3, c4, c5, c6⟩ := (HCC.out.on HB.out hbw).at hcc
      obtain ⟨cs0, hcs0⟩ : ∃ z, z = c.s := ⟨_, rfl⟩
      rw [← hcs0] at c2
      have HC := hid hcc
      have HCS := hid hcs0
      have HOL : Hid ((ofS s (cs.take k)).length ≤ 1000) := hid (by have := ofS_len s cs k; omega)
      clear hcc hcs0
      by_cases hs : cs0 = s
      · have hs1 : (cs0 == s) = true := by simpa using hs
        have HS := hid hs
        have tk2 : Hid (1 = 1) := hid rfl
        clear hs
        go_wp2_with (first
          | (clear tk2; at_builtin; refine wpList_append_own _ rfl _ _ 35 rfl w.heap.size 31 i0 _ 7 56 Try.underlying35 HIC.out.1 HIC.out.2.1 HIC.out.2.2.1 HIC.out.2.2.2 rfl (by decide) _ _ _ rfl (HO.out.alloc _) ⟨wr.heap.size, 0, none⟩ 1 1 c.cells rfl rfl (by have := HCS.out; subst this; exact new_cell rfl) (cells_one c) (by have := HOL.out; unfold maxLen; omega) (by have := HOL.out; omega) (by have := HB.out.size; simp; omega) ?_; intro v' w1' hown' hgrow _; have R := Own.grows (HB.out.alloc HB.out.size _) (by have := HB.out.size; simp; omega) (fun k hk => (HO.out.lt k hk).1) hown' hgrow; have HO3 := hid R.1; have HB3 := hid R.2; clear hown' hgrow R)
          | fail)
        go_roundw
        case rel => exact ⟨k + 1, by omega, by go_num, hid (by rw [ofS_keep HC.out (HCS.out.symm.trans HS.out)]; exact HO3.out), HB3⟩
        case measure => first | omega | (simp [RowKit.intOf]; omega)
      · have hs1 : (cs0 == s) = false := by simpa using hs
        have HS := hid hs
        clear hs
        go_wp2_with fail
        go_roundw
        case rel => exact ⟨k + 1, by omega, by go_num, hid (by rw [ofS_drop HC.out (fun e => HS.out (HCS.out.trans e))]; exact HO.out), HB⟩
        case measure => first | omega | (simp [RowKit.intOf]; omega)
    · have hlti : ¬ ((k : Int) < n) := by omega
      have HR : Hid (ofS s (cs.take k) = ofS s cs) := hid (by rw [List.take_of_length_le (by have := HN.out; omega)])
      go_wp2_with fail
      go_ret
      exact ⟨_, rfl, by rw [← HR.out]; exact HO.out, HB.out⟩
end Go.Proofs.Ytmggggijamligaa
