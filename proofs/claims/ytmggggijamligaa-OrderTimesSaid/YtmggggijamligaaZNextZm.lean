import Derived.Test.YtmggggijamligaaG10
import Derived.Test.YtmggggijamligaaG07
namespace Go.Proofs.Ytmggggijamligaa
set_option linter.unusedVariables false
open Go.RowKit
open Go.Lib (hid)
def sev7 (W : World) (R : Nat) (v0 v1 v2 v3 v4 v5 v6 : Value) : World := ((((((W.setCell ⟨R, 0, none⟩ v0).setCell ⟨R, 1, none⟩ v1).setCell ⟨R, 2, none⟩ v2).setCell ⟨R, 3, none⟩ v3).setCell ⟨R, 4, none⟩ v4).setCell ⟨R, 5, none⟩ v5).setCell ⟨R, 6, none⟩ v6
theorem set7 {W : World} {R : Nat} {T : TypeId} {u0 u1 u2 u3 u4 u5 u6 : Value} (h : W.heap[R]? = some (.cells #[u0, u1, u2, u3, u4, u5, u6] T (0, 0))) (v0 v1 v2 v3 v4 v5 v6 : Value) : (sev7 W R v0 v1 v2 v3 v4 v5 v6).heap[R]? = some (.cells #[v0, v1, v2, v3, v4, v5, v6] T (0, 0)) := by
  have h0 := setR h 0 v0
  rw [show (#[u0, u1, u2, u3, u4, u5, u6] : Array Value).setIfInBounds 0 v0 = #[v0, u1, u2, u3, u4, u5, u6] from rfl] at h0
  have h1 := setR h0 1 v1
  rw [show (#[v0, u1, u2, u3, u4, u5, u6] : Array Value).setIfInBounds 1 v1 = #[v0, v1, u2, u3, u4, u5, u6] from rfl] at h1
  have h2 := setR h1 2 v2
  rw [show (#[v0, v1, u2, u3, u4, u5, u6] : Array Value).setIfInBounds 2 v2 = #[v0, v1, v2, u3, u4, u5, u6] from rfl] at h2
  have h3 := setR h2 3 v3
  rw [show (#[v0, v1, v2, u3, u4, u5, u6] : Array Value).setIfInBounds 3 v3 = #[v0, v1, v2, v3, u4, u5, u6] from rfl] at h3
  have h4 := setR h3 4 v4
  rw [show (#[v0, v1, v2, v3, u4, u5, u6] : Array Value).setIfInBounds 4 v4 = #[v0, v1, v2, v3, v4, u5, u6] from rfl] at h4
  have h5 := setR h4 5 v5
  rw [show (#[v0, v1, v2, v3, v4, u5, u6] : Array Value).setIfInBounds 5 v5 = #[v0, v1, v2, v3, v4, v5, u6] from rfl] at h5
  have h6 := setR h5 6 v6
  rw [show (#[v0, v1, v2, v3, v4, v5, u6] : Array Value).setIfInBounds 6 v6 = #[v0, v1, v2, v3, v4, v5, v6] from rfl] at h6
  exact h6
theorem set7_grown (W : World) (R : Nat) (v0 v1 v2 v3 v4 v5 v6 : Value) : W.grownBy (sev7 W R v0 v1 v2 v3 v4 v5 v6) (some R) :=
  grownTrans (grownTrans (grownTrans (grownTrans (grownTrans (grownTrans (grownSet _ _ _) (grownSet _ _ _)) (grownSet _ _ _)) (grownSet _ _ _)) (grownSet _ _ _)) (grownSet _ _ _)) (grownSet _ _ _)
set_option maxHeartbeats 8000000 in
set_option maxRecDepth 100000 in
theorem nextOK : NextOK := by
  intro v vh l had w h hA hs hl hh hhl hWf o ho c hc ok hok
  have HLK : Hid (∀ W, Below w.heap.size w W → Calls Try.prog 20 #[v, vh] W fun e w' => ∃ F H, e = .returned (.agg (vwC v F H)) ∧ Mf w' F l.length (findN l) ∧ Mh w' H had.length had ∧ W.heap.size ≤ F ∧ W.heap.size ≤ H ∧ Below W.heap.size W w') := hid (fun W hW => cLook (h.on hW) hl (hh.1.on hW) hhl hWf)
  have HSL := hid h
  have HAA := hid hA
  have HS := hid hs
  have HWF := hid hWf
  have HO := hid ho
  have HC := hid hc
  have HOK := hid hok
  obtain ⟨b, oo, cap, a, rfl, ha, hcc, hb⟩ := h
  have hlm : (evs l).length = l.length := List.length_map ..
  rw [hlm] at ha hb HLK HSL ⊢
  obtain ⟨m, hm⟩ : ∃ m, m = l.length := ⟨_, rfl⟩
  have HM := hid hm
  have HCC := hid hcc
  rw [← hm] at ha hb hl HLK HSL ⊢
  clear hA hs hWf ho hc hok hm hcc hlm hh
  go_enter Try.func8, Try.ntmps8
  go_upto_region 1 with fail
  have HBA : Hid (Below w.heap.size w (w.alloc (.cells #[.int .i64 0, .int .i64 0, .int .i64 0, .int .i64 0, .int .i64 0, .int .i64 0, .int .i64 0] 31))) := hid ((Below.refl _ w).alloc (Nat.le_refl _) _)
  have HNA : Hid ((w.alloc (.cells #[.int .i64 0, .int .i64 0, .int .i64 0, .int .i64 0, .int .i64 0, .int .i64 0, .int .i64 0] 31)).heap[w.heap.size]? = some (.cells #[.int .i64 0, .int .i64 0, .int .i64 0, .int .i64 0, .int .i64 0, .int .i64 0, .int .i64 0] 31 (0, 0))) := hid (heap_alloc_new w _)
  generalize w.alloc (.cells #[.int .i64 0, .int .i64 0, .int .i64 0, .int .i64 0, .int .i64 0, .int .i64 0, .int .i64 0] 31) = wa at HBA HNA ⊢
  have hlook := HLK.out wa HBA.out
  go_upto_region 2 with (first
    | (go_at_call 20; refine hlook.mono ?_; clear hlook; rintro e w1 ⟨F, H, rfl, hF, hH, hF1, hH1, hB1⟩; have HF := hid hF; have HH := hid hH; have HB1 := hid hB1; clear hF hH hF1 hH1 hB1; unfold vwC)
    | fail)
  have HVW : Hid (Vw w1 (.slice a m cap) F H m had.length l had) := hid ⟨HSL.out.on (HBA.out.trans (HB1.out.mono HBA.out.size)), HAA.out.on (HBA.out.trans (HB1.out.mono HBA.out.size)), HF.out, HH.out, HWF.out⟩
  have HBB : Hid (Below w.heap.size w w1) := hid (HBA.out.trans (HB1.out.mono HBA.out.size))
  have HN1 : Hid (w1.heap[w.heap.size]? = some (.cells #[.int .i64 0, .int .i64 0, .int .i64 0, .int .i64 0, .int .i64 0, .int .i64 0, .int .i64 0] 31 (0, 0))) := hid (obOn HNA.out HB1.out (Array.getElem?_eq_some_iff.1 HNA.out).1)
  have HBV : Hid (Below w1.heap.size w1 (w1.alloc (.cells #[.slice a m cap, .map (some F), .map (some H)] 63))) := hid ((Below.refl _ w1).alloc (Nat.le_refl _) _)
  have HNV : Hid ((w1.alloc (.cells #[.slice a m cap, .map (some F), .map (some H)] 63)).heap[w1.heap.size]? = some (.cells #[.slice a m cap, .map (some F), .map (some H)] 63 (0, 0))) := hid (heap_alloc_new w1 _)
  generalize w1.alloc (.cells #[.slice a m cap, .map (some F), .map (some H)] 63) = W at HBV HNV ⊢
  have hvw : w1.heap.size < W.heap.size := (Array.getElem?_eq_some_iff.1 HNV.out).1
  have CV : Hid (∀ W2, Below W.heap.size W W2 → W2.rangeAt w1.heap.size 0 [.slice a m cap, .map (some F), .map (some H)]) := hid (fun W2 hW2 j v hv => by rw [Nat.zero_add]; exact (hW2.cell hvw).trans ((cellAt' HNV.out j).trans (by rw [← Array.getElem?_toList]; exact hv)))
  have HWV : Hid (∀ W2, Below W.heap.size W W2 → Vw W2 (.slice a m cap) F H m had.length l had) := hid (fun W2 hW2 => (HVW.out.on HBV.out).on hW2)
  have HBW : Hid (Below w.heap.size w W) := hid (HBB.out.trans (HBV.out.mono HBB.out.size))
  go_wp2_with fail
  go_loopw [7, 14] (fun s7 s14 wr => ∃ (k : Nat) (bo : Option Nat), k ≤ m ∧ s14 = .int .i64 k ∧ s7 = .int .i64 (optI bo) ∧ Hid (bo = nextUp l had k) ∧ Hid (Below W.heap.size W wr)) (fun _ s14 _ => m - (RowKit.intOf s14).toNat)
  case atStart => exact ⟨0, none, Nat.zero_le _, rfl, rfl, hid rfl, hid (Below.refl _ _)⟩
  case round =>
    obtain ⟨k, bo, hk, rfl, rfl, HBO, HBR⟩ := hrel
    by_cases hlt : k < m
    · have hlti : ((k : Int) < m) := by omega
      obtain rfl := ha (by omega)
      have hbw := hb (by omega)
      obtain ⟨x, hx⟩ : ∃ x, l[k]? = some x := ⟨l[k]'(by rw [← HM.out]; exact hlt), List.getElem?_eq_getElem (by rw [← HM.out]; exact hlt)⟩
      have HX := hid hx
      obtain ⟨wt, hwt⟩ : ∃ z, z = waitB l had k x := ⟨_, rfl⟩
      obtain ⟨rd, hrd⟩ : ∃ z, z = x.v.all (depB l had x.e.vt) := ⟨_, rfl⟩
      have HRB : Hid (readyB l had k x = (wt && rd)) := hid (by unfold readyB; rw [hwt, hrd])
      have HOP : Hid (∀ W2, Below W.heap.size W W2 → Calls Try.prog 21 #[.agg #[.slice (some ⟨b, oo, none⟩) m cap, .map (some F), .map (some H)], .int .i64 k] W2 fun e w' => e = .returned (.bool wt) ∧ Below W2.heap.size W2 w') := hid (fun W2 hW2 => cOpen (HWV.out W2 hW2) (by rw [← HM.out]; exact hl) hx hwt)
      have HRD : Hid (∀ W2, Below W.heap.size W W2 → Calls Try.prog 22 #[.agg #[.slice (some ⟨b, oo, none⟩) m cap, .map (some F), .map (some H)], .int .i64 k] W2 fun e w' => e = .returned (.bool rd) ∧ Below W2.heap.size W2 w') := hid (fun W2 hW2 => cReady (HWV.out W2 hW2) (by rw [← HM.out]; exact hl) hx (HS.out x (List.mem_of_getElem? hx)).2.2 hrd)
      obtain ⟨xt, hxt⟩ : ∃ z, z = x.e.vt := ⟨_, rfl⟩
      have HXT := hid hxt
      have HGX : Hid (∀ W2, Below W.heap.size W W2 → W2.cell? ⟨b, oo + k * 19 + 17, none⟩ = some (.int .i64 xt)) := hid (fun W2 hW2 => ((HBW.out.trans (hW2.mono HBW.out.size)).cell hbw).trans (by rw [hxt]; exact HCC.out k x.e (at_evs hx) 17 _ rfl))
      clear hx hwt hrd hxt
      rcases wt with _ | _
      · skip
        go_upto_region 6 with fail
        refine d0 (Below W.heap.size W) 27 (Array.replicate 27 false) ?_
        rw [show Array.replicate 27 false = #[false, false, false, false, false, false, false, false, false, false, false, false, false, false, false, false, false, false, false, false, false, false, false, false, false, false, false] from rfl]
        have HS0 : Hid (Below W.heap.size W wr.drew) := hid (belowDrew HBR.out)
        generalize wr.drew = wd at HS0 ⊢
        refine dlw 0 [.slice (some ⟨b, oo, none⟩) m cap, .map (some F), .map (some H)] w1.heap.size 0 (fun W2 hW2 => CV.out W2 hW2) Try.underlying63 HS0.out ?_
        refine dt 1 HS0.out ?_
        refine dopw 2 ?_
        intro K hK
        go_simp
        refine (HOP.out wd HS0.out).mono ?_
        rintro e w3 ⟨rfl, hB1⟩
        have HS1 : Hid (Below W.heap.size W w3) := hid (HS0.out.trans (hB1.mono HS0.out.size))
        clear hB1
        refine hK.out _ _ HS1.out ?_
        clear hK K
        refine dt 3 HS1.out ?_
        refine du 4 HS1.out ?_
        refine du 5 HS1.out ?_
        refine du 6 HS1.out ?_
        refine du 7 HS1.out ?_
        refine du 8 HS1.out ?_
        refine du 9 HS1.out ?_
        refine du 10 HS1.out ?_
        refine du 11 HS1.out ?_
        refine du 12 HS1.out ?_
        refine du 13 HS1.out ?_
        refine du 14 HS1.out ?_
        refine du 15 HS1.out ?_
        refine du 16 HS1.out ?_
        refine du 17 HS1.out ?_
        refine du 18 HS1.out ?_
        refine du 19 HS1.out ?_
        refine du 20 HS1.out ?_
        refine dt 21 HS1.out ?_
        refine dt 22 HS1.out ?_
        refine du 23 HS1.out ?_
        refine du 24 HS1.out ?_
        refine du 25 HS1.out ?_
        refine dt 26 HS1.out ?_
        refine wpAnyH_done (by kernel_rfl) ?_ _
        go_wp2_with fail
        go_roundw
        case rel => exact ⟨k + 1, bo, by omega, by go_num, rfl, hid (next_keep HX.out HBO.out (by rw [HRB.out]; rfl)), HS1⟩
        case measure => first | omega | (simp [RowKit.intOf]; omega)
      · rcases bo with _ | j
        · have hn0 : optI none = -1 := rfl
          rw [hn0]
          rcases rd with _ | _
          · skip
            go_upto_region 6 with fail
            refine d0 (Below W.heap.size W) 27 (Array.replicate 27 false) ?_
            rw [show Array.replicate 27 false = #[false, false, false, false, false, false, false, false, false, false, false, false, false, false, false, false, false, false, false, false, false, false, false, false, false, false, false] from rfl]
            have HS0 : Hid (Below W.heap.size W wr.drew) := hid (belowDrew HBR.out)
            generalize wr.drew = wd at HS0 ⊢
            refine dlw 0 [.slice (some ⟨b, oo, none⟩) m cap, .map (some F), .map (some H)] w1.heap.size 0 (fun W2 hW2 => CV.out W2 hW2) Try.underlying63 HS0.out ?_
            refine dt 1 HS0.out ?_
            refine dopw 2 ?_
            intro K hK
            go_simp
            refine (HOP.out wd HS0.out).mono ?_
            rintro e w3 ⟨rfl, hB1⟩
            have HS1 : Hid (Below W.heap.size W w3) := hid (HS0.out.trans (hB1.mono HS0.out.size))
            clear hB1
            refine hK.out _ _ HS1.out ?_
            clear hK K
            refine dt 3 HS1.out ?_
            refine dt 4 HS1.out ?_
            refine dt 5 HS1.out ?_
            refine dt 6 HS1.out ?_
            refine du 7 HS1.out ?_
            refine du 8 HS1.out ?_
            refine du 9 HS1.out ?_
            refine du 10 HS1.out ?_
            refine du 11 HS1.out ?_
            refine du 12 HS1.out ?_
            refine du 13 HS1.out ?_
            refine du 14 HS1.out ?_
            refine du 15 HS1.out ?_
            refine du 16 HS1.out ?_
            refine du 17 HS1.out ?_
            refine du 18 HS1.out ?_
            refine du 19 HS1.out ?_
            refine dt 20 HS1.out ?_
            refine dt 21 HS1.out ?_
            refine dt 22 HS1.out ?_
            refine dlw 23 [.slice (some ⟨b, oo, none⟩) m cap, .map (some F), .map (some H)] w1.heap.size 0 (fun W2 hW2 => CV.out W2 hW2) Try.underlying63 HS1.out ?_
            refine dt 24 HS1.out ?_
            refine dopw 25 ?_
            intro K hK
            go_simp
            refine (HRD.out w3 HS1.out).mono ?_
            rintro e w4 ⟨rfl, hB1⟩
            have HS2 : Hid (Below W.heap.size W w4) := hid (HS1.out.trans (hB1.mono HS1.out.size))
            clear hB1
            refine hK.out _ _ HS2.out ?_
            clear hK K
            refine dt 26 HS2.out ?_
            refine wpAnyH_done (by kernel_rfl) ?_ _
            go_wp2_with fail
            go_roundw
            case rel => exact ⟨k + 1, none, by omega, by go_num, rfl, hid (next_keep HX.out HBO.out (by rw [HRB.out]; rfl)), HS2⟩
            case measure => first | omega | (simp [RowKit.intOf]; omega)
          · skip
            go_upto_region 6 with fail
            refine d0 (Below W.heap.size W) 27 (Array.replicate 27 false) ?_
            rw [show Array.replicate 27 false = #[false, false, false, false, false, false, false, false, false, false, false, false, false, false, false, false, false, false, false, false, false, false, false, false, false, false, false] from rfl]
            have HS0 : Hid (Below W.heap.size W wr.drew) := hid (belowDrew HBR.out)
            generalize wr.drew = wd at HS0 ⊢
            refine dlw 0 [.slice (some ⟨b, oo, none⟩) m cap, .map (some F), .map (some H)] w1.heap.size 0 (fun W2 hW2 => CV.out W2 hW2) Try.underlying63 HS0.out ?_
            refine dt 1 HS0.out ?_
            refine dopw 2 ?_
            intro K hK
            go_simp
            refine (HOP.out wd HS0.out).mono ?_
            rintro e w3 ⟨rfl, hB1⟩
            have HS1 : Hid (Below W.heap.size W w3) := hid (HS0.out.trans (hB1.mono HS0.out.size))
            clear hB1
            refine hK.out _ _ HS1.out ?_
            clear hK K
            refine dt 3 HS1.out ?_
            refine dt 4 HS1.out ?_
            refine dt 5 HS1.out ?_
            refine dt 6 HS1.out ?_
            refine du 7 HS1.out ?_
            refine du 8 HS1.out ?_
            refine du 9 HS1.out ?_
            refine du 10 HS1.out ?_
            refine du 11 HS1.out ?_
            refine du 12 HS1.out ?_
            refine du 13 HS1.out ?_
            refine du 14 HS1.out ?_
            refine du 15 HS1.out ?_
            refine du 16 HS1.out ?_
            refine du 17 HS1.out ?_
            refine du 18 HS1.out ?_
            refine du 19 HS1.out ?_
            refine dt 20 HS1.out ?_
            refine dt 21 HS1.out ?_
            refine dt 22 HS1.out ?_
            refine dlw 23 [.slice (some ⟨b, oo, none⟩) m cap, .map (some F), .map (some H)] w1.heap.size 0 (fun W2 hW2 => CV.out W2 hW2) Try.underlying63 HS1.out ?_
            refine dt 24 HS1.out ?_
            refine dopw 25 ?_
            intro K hK
            go_simp
            refine (HRD.out w3 HS1.out).mono ?_
            rintro e w4 ⟨rfl, hB1⟩
            have HS2 : Hid (Below W.heap.size W w4) := hid (HS1.out.trans (hB1.mono HS1.out.size))
            clear hB1
            refine hK.out _ _ HS2.out ?_
            clear hK K
            refine dt 26 HS2.out ?_
            refine wpAnyH_done (by kernel_rfl) ?_ _
            go_wp2_with fail
            go_roundw
            case rel => exact ⟨k + 1, some k, by omega, by go_num, rfl, hid (next_take HX.out HBO.out (by rw [HRB.out]; rfl)), HS2⟩
            case measure => first | omega | (simp [RowKit.intOf]; omega)
        · have hjk := (nextUp_lt HBO.out.symm).1
          obtain ⟨y, hy, _⟩ := (nextUp_lt HBO.out.symm).2
          have hjm : ((j : Int) < m) := by omega
          have hkm : ((k : Int) < m) := by omega
          have hj0 : decide ((j : Int) < 0) = false := decide_eq_false (by omega)
          obtain ⟨yt, hyt⟩ : ∃ z, z = y.e.vt := ⟨_, rfl⟩
          have HGY : Hid (∀ W2, Below W.heap.size W W2 → W2.cell? ⟨b, oo + j * 19 + 17, none⟩ = some (.int .i64 yt)) := hid (fun W2 hW2 => ((HBW.out.trans (hW2.mono HBW.out.size)).cell hbw).trans (by rw [hyt]; exact HCC.out j y.e (at_evs hy) 17 _ rfl))
          have HBT : Hid (betterB l x (some j) = decide (xt < yt)) := hid (by rw [HXT.out, hyt]; exact better_some hy)
          clear hy hyt
          have hn1 : optI (some j) = (j : Int) := rfl
          rw [hn1]
          by_cases ht : xt < yt
          · have hq : decide (xt < yt) = true := decide_eq_true ht
            rcases rd with _ | _
            · skip
              go_upto_region 6 with fail
              refine d0 (Below W.heap.size W) 27 (Array.replicate 27 false) ?_
              rw [show Array.replicate 27 false = #[false, false, false, false, false, false, false, false, false, false, false, false, false, false, false, false, false, false, false, false, false, false, false, false, false, false, false] from rfl]
              have HS0 : Hid (Below W.heap.size W wr.drew) := hid (belowDrew HBR.out)
              generalize wr.drew = wd at HS0 ⊢
              refine dlw 0 [.slice (some ⟨b, oo, none⟩) m cap, .map (some F), .map (some H)] w1.heap.size 0 (fun W2 hW2 => CV.out W2 hW2) Try.underlying63 HS0.out ?_
              refine dt 1 HS0.out ?_
              refine dopw 2 ?_
              intro K hK
              go_simp
              refine (HOP.out wd HS0.out).mono ?_
              rintro e w3 ⟨rfl, hB1⟩
              have HS1 : Hid (Below W.heap.size W w3) := hid (HS0.out.trans (hB1.mono HS0.out.size))
              clear hB1
              refine hK.out _ _ HS1.out ?_
              clear hK K
              refine dt 3 HS1.out ?_
              refine dt 4 HS1.out ?_
              refine dt 5 HS1.out ?_
              refine dt 6 HS1.out ?_
              refine dt 7 HS1.out ?_
              refine dt 8 HS1.out ?_
              refine dt 9 HS1.out ?_
              refine dt 10 HS1.out ?_
              refine dt 11 HS1.out ?_
              refine dt 12 HS1.out ?_ (hv := by (intro W2 hW2; have c := HGX.out W2 hW2; go_simp; try with_reducible rfl))
              refine dt 13 HS1.out ?_
              refine dt 14 HS1.out ?_
              refine dt 15 HS1.out ?_
              refine dt 16 HS1.out ?_
              refine dt 17 HS1.out ?_
              refine dt 18 HS1.out ?_ (hv := by (intro W2 hW2; have c := HGY.out W2 hW2; go_simp; try with_reducible rfl))
              refine dt 19 HS1.out ?_
              refine dt 20 HS1.out ?_
              refine dt 21 HS1.out ?_
              refine dt 22 HS1.out ?_
              refine dlw 23 [.slice (some ⟨b, oo, none⟩) m cap, .map (some F), .map (some H)] w1.heap.size 0 (fun W2 hW2 => CV.out W2 hW2) Try.underlying63 HS1.out ?_
              refine dt 24 HS1.out ?_
              refine dopw 25 ?_
              intro K hK
              go_simp
              refine (HRD.out w3 HS1.out).mono ?_
              rintro e w4 ⟨rfl, hB1⟩
              have HS2 : Hid (Below W.heap.size W w4) := hid (HS1.out.trans (hB1.mono HS1.out.size))
              clear hB1
              refine hK.out _ _ HS2.out ?_
              clear hK K
              refine dt 26 HS2.out ?_
              refine wpAnyH_done (by kernel_rfl) ?_ _
              go_wp2_with fail
              go_roundw
              case rel => exact ⟨k + 1, some j, by omega, by go_num, rfl, hid (next_keep HX.out HBO.out (by rw [HRB.out]; rfl)), HS2⟩
              case measure => first | omega | (simp [RowKit.intOf]; omega)
            · skip
              go_upto_region 6 with fail
              refine d0 (Below W.heap.size W) 27 (Array.replicate 27 false) ?_
              rw [show Array.replicate 27 false = #[false, false, false, false, false, false, false, false, false, false, false, false, false, false, false, false, false, false, false, false, false, false, false, false, false, false, false] from rfl]
              have HS0 : Hid (Below W.heap.size W wr.drew) := hid (belowDrew HBR.out)
              generalize wr.drew = wd at HS0 ⊢
              refine dlw 0 [.slice (some ⟨b, oo, none⟩) m cap, .map (some F), .map (some H)] w1.heap.size 0 (fun W2 hW2 => CV.out W2 hW2) Try.underlying63 HS0.out ?_
              refine dt 1 HS0.out ?_
              refine dopw 2 ?_
              intro K hK
              go_simp
              refine (HOP.out wd HS0.out).mono ?_
              rintro e w3 ⟨rfl, hB1⟩
              have HS1 : Hid (Below W.heap.size W w3) := hid (HS0.out.trans (hB1.mono HS0.out.size))
              clear hB1
              refine hK.out _ _ HS1.out ?_
              clear hK K
              refine dt 3 HS1.out ?_
              refine dt 4 HS1.out ?_
              refine dt 5 HS1.out ?_
              refine dt 6 HS1.out ?_
              refine dt 7 HS1.out ?_
              refine dt 8 HS1.out ?_
              refine dt 9 HS1.out ?_
              refine dt 10 HS1.out ?_
              refine dt 11 HS1.out ?_
              refine dt 12 HS1.out ?_ (hv := by (intro W2 hW2; have c := HGX.out W2 hW2; go_simp; try with_reducible rfl))
              refine dt 13 HS1.out ?_
              refine dt 14 HS1.out ?_
              refine dt 15 HS1.out ?_
              refine dt 16 HS1.out ?_
              refine dt 17 HS1.out ?_
              refine dt 18 HS1.out ?_ (hv := by (intro W2 hW2; have c := HGY.out W2 hW2; go_simp; try with_reducible rfl))
              refine dt 19 HS1.out ?_
              refine dt 20 HS1.out ?_
              refine dt 21 HS1.out ?_
              refine dt 22 HS1.out ?_
              refine dlw 23 [.slice (some ⟨b, oo, none⟩) m cap, .map (some F), .map (some H)] w1.heap.size 0 (fun W2 hW2 => CV.out W2 hW2) Try.underlying63 HS1.out ?_
              refine dt 24 HS1.out ?_
              refine dopw 25 ?_
              intro K hK
              go_simp
              refine (HRD.out w3 HS1.out).mono ?_
              rintro e w4 ⟨rfl, hB1⟩
              have HS2 : Hid (Below W.heap.size W w4) := hid (HS1.out.trans (hB1.mono HS1.out.size))
              clear hB1
              refine hK.out _ _ HS2.out ?_
              clear hK K
              refine dt 26 HS2.out ?_
              refine wpAnyH_done (by kernel_rfl) ?_ _
              go_wp2_with fail
              go_roundw
              case rel => exact ⟨k + 1, some k, by omega, by go_num, rfl, hid (next_take HX.out HBO.out (by rw [HRB.out, HBT.out, decide_eq_true ht]; rfl)), HS2⟩
              case measure => first | omega | (simp [RowKit.intOf]; omega)
          · have hq : decide (xt < yt) = false := decide_eq_false ht
            go_upto_region 6 with fail
            refine d0 (Below W.heap.size W) 27 (Array.replicate 27 false) ?_
            rw [show Array.replicate 27 false = #[false, false, false, false, false, false, false, false, false, false, false, false, false, false, false, false, false, false, false, false, false, false, false, false, false, false, false] from rfl]
            have HS0 : Hid (Below W.heap.size W wr.drew) := hid (belowDrew HBR.out)
            generalize wr.drew = wd at HS0 ⊢
            refine dlw 0 [.slice (some ⟨b, oo, none⟩) m cap, .map (some F), .map (some H)] w1.heap.size 0 (fun W2 hW2 => CV.out W2 hW2) Try.underlying63 HS0.out ?_
            refine dt 1 HS0.out ?_
            refine dopw 2 ?_
            intro K hK
            go_simp
            refine (HOP.out wd HS0.out).mono ?_
            rintro e w3 ⟨rfl, hB1⟩
            have HS1 : Hid (Below W.heap.size W w3) := hid (HS0.out.trans (hB1.mono HS0.out.size))
            clear hB1
            refine hK.out _ _ HS1.out ?_
            clear hK K
            refine dt 3 HS1.out ?_
            refine dt 4 HS1.out ?_
            refine dt 5 HS1.out ?_
            refine dt 6 HS1.out ?_
            refine dt 7 HS1.out ?_
            refine dt 8 HS1.out ?_
            refine dt 9 HS1.out ?_
            refine dt 10 HS1.out ?_
            refine dt 11 HS1.out ?_
            refine dt 12 HS1.out ?_ (hv := by (intro W2 hW2; have c := HGX.out W2 hW2; go_simp; try with_reducible rfl))
            refine dt 13 HS1.out ?_
            refine dt 14 HS1.out ?_
            refine dt 15 HS1.out ?_
            refine dt 16 HS1.out ?_
            refine dt 17 HS1.out ?_
            refine dt 18 HS1.out ?_ (hv := by (intro W2 hW2; have c := HGY.out W2 hW2; go_simp; try with_reducible rfl))
            refine dt 19 HS1.out ?_
            refine dt 20 HS1.out ?_
            refine dt 21 HS1.out ?_
            refine dt 22 HS1.out ?_
            refine du 23 HS1.out ?_
            refine du 24 HS1.out ?_
            refine du 25 HS1.out ?_
            refine dt 26 HS1.out ?_
            refine wpAnyH_done (by kernel_rfl) ?_ _
            go_wp2_with fail
            go_roundw
            case rel => exact ⟨k + 1, some j, by omega, by go_num, rfl, hid (next_keep HX.out HBO.out (by rw [HBT.out, decide_eq_false ht, Bool.and_false])), HS1⟩
            case measure => first | omega | (simp [RowKit.intOf]; omega)
    · have hlti : ¬ ((k : Int) < m) := by omega
      have hkn : k = m := by omega
      have HIO : Hid (bo = o) := hid (by rw [HBO.out, HO.out, hkn, HM.out]; rfl)
      have HNR : Hid (wr.heap[w.heap.size]? = some (.cells #[.int .i64 0, .int .i64 0, .int .i64 0, .int .i64 0, .int .i64 0, .int .i64 0, .int .i64 0] 31 (0, 0))) := hid (obOn (obOn HN1.out HBV.out (Array.getElem?_eq_some_iff.1 HN1.out).1) HBR.out (Array.getElem?_eq_some_iff.1 (obOn HN1.out HBV.out (Array.getElem?_eq_some_iff.1 HN1.out).1)).1)
      have r0 := (cellAt' HNR.out 0).trans rfl
      have r1 := (cellAt' HNR.out 1).trans rfl
      have r2 := (cellAt' HNR.out 2).trans rfl
      have r3 := (cellAt' HNR.out 3).trans rfl
      have r4 := (cellAt' HNR.out 4).trans rfl
      have r5 := (cellAt' HNR.out 5).trans rfl
      have r6 := (cellAt' HNR.out 6).trans rfl
      have f0 := frozen_of_row wr w.heap.size 0 _ _ HNR.out
      have f1 := frozen_of_row wr w.heap.size 1 _ _ HNR.out
      have f2 := frozen_of_row wr w.heap.size 2 _ _ HNR.out
      have f3 := frozen_of_row wr w.heap.size 3 _ _ HNR.out
      have f4 := frozen_of_row wr w.heap.size 4 _ _ HNR.out
      have f5 := frozen_of_row wr w.heap.size 5 _ _ HNR.out
      have f6 := frozen_of_row wr w.heap.size 6 _ _ HNR.out
      rcases bo with _ | j
      · have hn0 : optI none = -1 := rfl
        rw [hn0]
        have HCZ : Hid (c = zC7 ∧ ok = false) := hid ⟨by rw [HC.out, ← HIO.out]; rfl, by rw [HOK.out, ← HIO.out]; rfl⟩
        go_wp2_with fail
        have HRB := set7 HNR.out (.int .i64 0) (.int .i64 0) (.int .i64 0) (.int .i64 0) (.int .i64 0) (.int .i64 0) (.int .i64 0)
        have HG := set7_grown wr w.heap.size (.int .i64 0) (.int .i64 0) (.int .i64 0) (.int .i64 0) (.int .i64 0) (.int .i64 0) (.int .i64 0)
        unfold sev7 at HRB HG
        generalize ((((((wr.setCell ⟨w.heap.size, 0, none⟩ (.int .i64 0)).setCell ⟨w.heap.size, 1, none⟩ (.int .i64 0)).setCell ⟨w.heap.size, 2, none⟩ (.int .i64 0)).setCell ⟨w.heap.size, 3, none⟩ (.int .i64 0)).setCell ⟨w.heap.size, 4, none⟩ (.int .i64 0)).setCell ⟨w.heap.size, 5, none⟩ (.int .i64 0)).setCell ⟨w.heap.size, 6, none⟩ (.int .i64 0) = W5 at HRB HG ⊢
        have k0 := (cellAt' HRB 0).trans rfl
        have k1 := (cellAt' HRB 1).trans rfl
        have k2 := (cellAt' HRB 2).trans rfl
        have k3 := (cellAt' HRB 3).trans rfl
        have k4 := (cellAt' HRB 4).trans rfl
        have k5 := (cellAt' HRB 5).trans rfl
        have k6 := (cellAt' HRB 6).trans rfl
        refine bodyPost_ret (v := .tuple #[zC7.v, .bool false]) (by simp [results, Try.results8, go_sem, k0, k1, k2, k3, k4, k5, k6, zC7]) rfl ⟨by rw [HCZ.out.1, HCZ.out.2], (HBW.out.trans (HBR.out.mono HBW.out.size)).grown HG (HBW.out.trans (HBR.out.mono HBW.out.size)).size (fun q hq => by cases hq; exact Nat.le_refl _)⟩
      · obtain ⟨hjm0, y, hy, _⟩ := nextUp_lt HBO.out.symm
        have hjm : ((j : Int) < m) := by omega
        obtain rfl := ha (by omega)
        have hbw := hb (by omega)
        have HCY : Hid (c = y.e.c ∧ ok = true) := hid ⟨by rw [HC.out, ← HIO.out]; exact nextC_some hy, by rw [HOK.out, ← HIO.out]; rfl⟩
        obtain ⟨q0, q1, q2, q3, q4, q5, q6⟩ : CmdR wr b (oo + j * 19) c := by
          rw [HCY.out.1]
          exact cmd_range (fun q u hu => ((HBW.out.trans (HBR.out.mono HBW.out.size)).cell hbw).trans (HCC.out j y.e (at_evs hy) q u hu))
        have hj0 : decide ((j : Int) < 0) = false := decide_eq_false (by omega)
        have hn1 : optI (some j) = (j : Int) := rfl
        rw [hn1]
        clear hy
        obtain ⟨z0, z1, z2, z3, z4, z5, z6⟩ := c
        dsimp only at q0 q1 q2 q3 q4 q5 q6
        go_wp2_with fail
        have HRB := set7 HNR.out (.int .i64 z0) (.int .i64 z1) (.int .i64 z2) (.int .i64 z3) (.int .i64 z4) (.int .i64 z5) (.int .i64 z6)
        have HG := set7_grown wr w.heap.size (.int .i64 z0) (.int .i64 z1) (.int .i64 z2) (.int .i64 z3) (.int .i64 z4) (.int .i64 z5) (.int .i64 z6)
        unfold sev7 at HRB HG
        generalize ((((((wr.setCell ⟨w.heap.size, 0, none⟩ (.int .i64 z0)).setCell ⟨w.heap.size, 1, none⟩ (.int .i64 z1)).setCell ⟨w.heap.size, 2, none⟩ (.int .i64 z2)).setCell ⟨w.heap.size, 3, none⟩ (.int .i64 z3)).setCell ⟨w.heap.size, 4, none⟩ (.int .i64 z4)).setCell ⟨w.heap.size, 5, none⟩ (.int .i64 z5)).setCell ⟨w.heap.size, 6, none⟩ (.int .i64 z6) = W5 at HRB HG ⊢
        have k0 := (cellAt' HRB 0).trans rfl
        have k1 := (cellAt' HRB 1).trans rfl
        have k2 := (cellAt' HRB 2).trans rfl
        have k3 := (cellAt' HRB 3).trans rfl
        have k4 := (cellAt' HRB 4).trans rfl
        have k5 := (cellAt' HRB 5).trans rfl
        have k6 := (cellAt' HRB 6).trans rfl
        refine bodyPost_ret (v := .tuple #[(C7.mk z0 z1 z2 z3 z4 z5 z6).v, .bool true]) (by simp [results, Try.results8, go_sem, k0, k1, k2, k3, k4, k5, k6]) rfl ⟨by rw [HCY.out.2], (HBW.out.trans (HBR.out.mono HBW.out.size)).grown HG (HBW.out.trans (HBR.out.mono HBW.out.size)).size (fun q hq => by cases hq; exact Nat.le_refl _)⟩
end Go.Proofs.Ytmggggijamligaa
