import Derived.Test.YtplodoindppleaaGreatG13
import Derived.Test.YtplodoindppleaaGreatG14
import Derived.Test.YtplodoindppleaaGreatG15
namespace Go.Proofs.YtplodoindppleaaGreat
set_option linter.unusedVariables false
open Go.RowKit
open Go.Lib (hid)
set_option maxHeartbeats 8000000 in
set_option maxRecDepth 100000 in
theorem cOwnL {w : World} {t : Int} {p : Sv} {l : List C7} (h : Sl w p.v l) (hl : l.length ≤ 100000) : Calls Tryz.prog 23 #[.agg (varr t p)] w fun e w' => ∃ r : Sv, e = .returned (.agg (varr t r)) ∧ SetD w' r.v l ∧ Below w.heap.size w w' := by
 have HB := hid (laid2_b w (.cells (varr t p) 34) zeroVc)
 have HX : Hid (OV ((w.alloc (.cells (varr t p) 34)).alloc zeroVc) w.heap.size t p) := hid (laid2_0 w _ _)
 have HR : Hid (RoomV ((w.alloc (.cells (varr t p) 34)).alloc zeroVc) (w.heap.size + 1)) := hid ⟨_, laid2_1 w _ _, rfl⟩
 have HS := hid (h.on HB.out)
 have HL := hid hl
 clear h hl
 go_enter Tryz.func23, Tryz.ntmps23
 go_upto_region 1 with fail
 generalize ((w.alloc (.cells (varr t p) 34)).alloc zeroVc) = W0 at HB HX HR HS ⊢
 refine rh_start (S := fun W => Below w.heap.size w W ∧ OV W w.heap.size t p ∧ RoomV W (w.heap.size + 1) ∧ Sl W p.v l) (n := 7) (listed := #[false, false, false, false, false, false, false]) (by kernel_rfl) rfl rfl ?_
 have HS0 : Hid (Below w.heap.size w W0.drew ∧ OV W0.drew w.heap.size t p ∧ RoomV W0.drew (w.heap.size + 1) ∧ Sl W0.drew p.v l) := hid ⟨HB.out.trans ((belowDrew (Below.refl _ _)).mono HB.out.size), HX.out, HR.out, HS.out.on (belowDrew (Below.refl _ _))⟩
 generalize W0.drew = wd at HS0 ⊢
 clear HB HX HR HS
 refine tkS 0 ?o1 ?v1 ?l1 ?a1 ?hi1 ?hq1 ?hl1 ?hw1 ?hv1 ?ha1 HS0.out ?hh1
 case hi1 => (simp only [List.getElem?_toArray, List.getElem?_cons_zero]; try rfl)
 case hq1 => exact fun _ _ _ h => h
 case hl1 => (simp only [List.setIfInBounds_toArray, List.set_cons_zero]; try rfl)
 case hw1 => rfl
 case hv1 =>
  intro W hW
  have k0 : W.cell? ⟨w.heap.size, 0, none⟩ = some (.int .i64 t) := (cellAt' hW.2.1 0).trans rfl; have k1 : W.cell? ⟨w.heap.size, 1, none⟩ = some (.slice p.a p.n p.c) := (cellAt' hW.2.1 1).trans rfl
  go_simp
  try with_reducible rfl
 case ha1 => (simp only [Act.put,gD,gE,gF]; try rfl)
 refine tkS 1 ?o2 ?v2 ?l2 ?a2 ?hi2 ?hq2 ?hl2 ?hw2 ?hv2 ?ha2 HS0.out ?hh2
 case hi2 => (simp only [gA,gB,gC]; try rfl)
 case hq2 => exact fun _ _ _ h => h
 case hl2 => (simp only [gD,gE,gF]; try rfl)
 case hw2 => rfl
 case hv2 =>
  intro W hW
  have k0 : W.cell? ⟨w.heap.size, 0, none⟩ = some (.int .i64 t) := (cellAt' hW.2.1 0).trans rfl; have k1 : W.cell? ⟨w.heap.size, 1, none⟩ = some (.slice p.a p.n p.c) := (cellAt' hW.2.1 1).trans rfl
  go_simp
  try with_reducible rfl
 case ha2 => (simp only [Act.put,gD,gE,gF]; try rfl)
 refine tkS 2 ?o3 ?v3 ?l3 ?a3 ?hi3 ?hq3 ?hl3 ?hw3 ?hv3 ?ha3 HS0.out ?hh3
 case hi3 => (simp only [gA,gB,gC]; try rfl)
 case hq3 => exact fun _ _ _ h => h
 case hl3 => (simp only [gD,gE,gF]; try rfl)
 case hw3 => rfl
 case hv3 =>
  intro W hW
  have k0 : W.cell? ⟨w.heap.size, 0, none⟩ = some (.int .i64 t) := (cellAt' hW.2.1 0).trans rfl; have k1 : W.cell? ⟨w.heap.size, 1, none⟩ = some (.slice p.a p.n p.c) := (cellAt' hW.2.1 1).trans rfl
  go_simp
  try with_reducible rfl
 case ha3 => (simp only [Act.put,gD,gE,gF]; try rfl)
 refine tkS 3 ?o4 ?v4 ?l4 ?a4 ?hi4 ?hq4 ?hl4 ?hw4 ?hv4 ?ha4 HS0.out ?hh4
 case hi4 => (simp only [gA,gB,gC]; try rfl)
 case hq4 => exact fun _ _ _ h => h
 case hl4 => (simp only [gD,gE,gF]; try rfl)
 case hw4 => rfl
 case hv4 =>
  intro W hW
  have k0 : W.cell? ⟨w.heap.size, 0, none⟩ = some (.int .i64 t) := (cellAt' hW.2.1 0).trans rfl; have k1 : W.cell? ⟨w.heap.size, 1, none⟩ = some (.slice p.a p.n p.c) := (cellAt' hW.2.1 1).trans rfl
  go_simp
  try with_reducible rfl
 case ha4 => (simp only [Act.put,gD,gE,gF]; try rfl)
 refine wpAnyH_ready (rs := [4]) (by kernel_rfl) (by simp) ?_
 refine rh_cons (i := 4) (o := ?o5) (listed' := ?l5) ?hi5 ?hl5 ?hg5 ?hh5 ?hs5
 case hi5 => (simp only [gA,gB,gC]; try rfl)
 case hl5 => (simp only [gD,gE,gF]; try rfl)
 case hg5 => rfl
 case hs5 => exact AllReadyH.nil
 intro K hK
 go_simp
 refine (cCloneS HS0.out.2.2.2 HL.out).mono ?_
 rintro z w1 ⟨⟨ra, rn, rc⟩, rfl, hs, hB⟩
 have HS1 : Hid (Below w.heap.size w w1 ∧ OV w1 w.heap.size t p ∧ RoomV w1 (w.heap.size + 1) ∧ Sl w1 p.v l) := hid ⟨HS0.out.1.trans (hB.mono HS0.out.1.size), HS0.out.2.1.on hB, HS0.out.2.2.1.on hB, HS0.out.2.2.2.on hB⟩
 have HSr := hid hs
 clear hs hB
 refine hK.out _ _ HS1.out ?_
 clear hK K
 refine tkS 5 ?o6 ?v6 ?l6 ?a6 ?hi6 ?hq6 ?hl6 ?hw6 ?hv6 ?ha6 HS1.out ?hh6
 case hi6 => (simp only [gA,gB,gC]; try rfl)
 case hq6 => exact fun _ _ _ h => h
 case hl6 => (simp only [gD,gE,gF]; try rfl)
 case hw6 => rfl
 case hv6 =>
  intro W hW
  go_simp
  try with_reducible rfl
 case ha6 => (simp only [Act.put,gD,gE,gF]; try rfl)
 obtain ⟨C, hC1, hC2⟩ := HS1.out.2.2.1
 have HRC := hid (And.intro hC1 hC2)
 clear hC1 hC2
 refine wpAnyH_ready (rs := [6]) (by kernel_rfl) (by simp) ?_
 refine rh_storeN (i := 6) (o := ?o7) (listed' := ?l7) (x := ?x7) (y := ?y7) (b := w.heap.size + 1) (T := 34) (varr t ⟨ra, rn, rc⟩) (infoVl' t ⟨ra, rn, rc⟩) (varr_one t ⟨ra, rn, rc⟩) ?hi7 ?hl7 ?hg7 ?ho7 ?hx7 ?hy7 ?hd7 HRC.out.1 HRC.out.2 ?hh7 ?hs7
 case hi7 => (simp only [gA,gB,gC]; try rfl)
 case hl7 => (simp only [gD,gE,gF]; try rfl)
 case hg7 => rfl
 case ho7 => rfl
 case hx7 => rfl
 case hy7 => rfl
 case hd7 => rfl
 case hs7 => exact AllReadyH.nil
 intro wq hO hU
 have HOq : Hid (OV wq (w.heap.size + 1) t ⟨ra, rn, rc⟩) := hid hO
 have HBq : Hid (Below (w.heap.size + 1) w1 wq) := hid (hU.below _ (Nat.le_refl _))
 have HSq : Hid (Below w.heap.size w wq ∧ OV wq w.heap.size t p ∧ RoomV wq (w.heap.size + 1) ∧ Sl wq p.v l) := hid ⟨HS1.out.1.trans (HBq.out.mono (Nat.le_succ _)), (HBq.out.block _ (Nat.lt_succ_self _)).trans HS1.out.2.1, HOq.out.room, HS1.out.2.2.2.updV HS1.out.2.2.1 hU⟩
 have HSR : Hid (SetD wq (Sv.v ⟨ra, rn, rc⟩) l) := hid (HSr.out.tch hU.tch (fun k hk cur fz h => by subst hk; rw [HRC.out.1] at h; injection h with h; injection h with _ h; exact absurd h (by decide)))
 clear hO hU
 refine ⟨HSq.out, ?_⟩
 refine wpAnyH_done (by kernel_rfl) ?_ _
 go_wp2_with fail
 refine bodyPost_ret (ret_cell1 rfl rfl HOq.out.range Tryz.underlying34 rfl (infoVl _ _)) rfl ⟨_, rfl, HSR.out, HSq.out.1⟩
theorem cCounted (s : Int) (w : World) : Calls Tryz.prog 66 #[.int .i64 s] w fun e w' => e = .returned (.int .i64 (cntI s)) ∧ w = w' := by
 unfold cntI
 by_cases h : s = 2
 · rw [if_pos h]
   go_enter Tryz.func66, Tryz.ntmps66
   go_wp2
   go_ret
   exact ⟨rfl, rfl⟩
 · rw [if_neg h]
   go_enter Tryz.func66, Tryz.ntmps66
   go_wp2
   go_ret
   exact ⟨rfl, rfl⟩
theorem Below.drewL {B : Nat} {a w : World} (h : Below B a w) (n : Nat) : Below B a (w.drewN n) := ⟨h.os, h.tape, h.output, h.size, h.block⟩
def hasM (m x : Mg) : Bool := decide (x.fr = m.fr) && decide (cntI x.so = cntI m.so)
set_option maxHeartbeats 1600000 in
set_option maxRecDepth 100000 in
theorem cHas1 {w : World} {pm : Nat} {m : Mg} (x : Mg) (hm : OM w pm m) : Calls Tryz.prog 65 #[.agg x.arr, ptr pm] w fun e w' => e = .returned (.bool (hasM m x)) ∧ Below w.heap.size w w' := by
 have HB := hid (laid1_b w (.cells x.arr 48))
 have HX : Hid (OM (w.alloc (.cells x.arr 48)) w.heap.size x) := hid (laid1_0 w _)
 have HM : Hid (OM (w.alloc (.cells x.arr 48)) pm m) := hid (obAlloc hm)
 clear hm
 go_enter Tryz.func65, Tryz.ntmps65
 go_upto_region 1 with fail
 generalize (w.alloc (.cells x.arr 48)) = W0 at HB HX HM ⊢
 have d0 : W0.cell? ⟨w.heap.size, 1, none⟩ = some (.int .i64 x.fr) := HX.out.cell (m := x) (j := 1) rfl
 have d1 : W0.cell? ⟨w.heap.size, 0, none⟩ = some (.int .i64 x.so) := HX.out.cell (m := x) (j := 0) rfl
 have e0 : W0.cell? ⟨pm, 1, none⟩ = some (.int .i64 m.fr) := HM.out.cell (m := m) (j := 1) rfl
 have e1 : W0.cell? ⟨pm, 0, none⟩ = some (.int .i64 m.so) := HM.out.cell (m := m) (j := 0) rfl
 obtain ⟨xf, hxf⟩ : ∃ z, z = x.fr := ⟨_, rfl⟩
 obtain ⟨xs, hxs⟩ : ∃ z, z = x.so := ⟨_, rfl⟩
 obtain ⟨mf, hmf⟩ : ∃ z, z = m.fr := ⟨_, rfl⟩
 obtain ⟨ms, hms⟩ : ∃ z, z = m.so := ⟨_, rfl⟩
 rw [← hxf] at d0
 rw [← hxs] at d1
 rw [← hmf] at e0
 rw [← hms] at e1
 have HE : Hid (hasM m x = (decide (xf = mf) && decide (cntI xs = cntI ms))) := hid (by unfold hasM; rw [hxf, hxs, hmf, hms])
 clear hxf hxs hmf hms
 clear HX HM
 by_cases hf : xf = mf
 · by_cases hc : cntI xs = cntI ms
   · have hcb : decide (cntI xs = cntI ms) = true := decide_eq_true hc
     go_quiet ((first | (go_at_call 66; with_reducible exact quietS (cCounted _ _))))
     go_wp2_with fail
     go_ret
     refine ⟨?_, Below.drewL HB.out _⟩
     rw [HE.out]
     simp [hf, hc]
   · have hcb : decide (cntI xs = cntI ms) = false := decide_eq_false hc
     go_quiet ((first | (go_at_call 66; with_reducible exact quietS (cCounted _ _))))
     go_wp2_with fail
     go_ret
     refine ⟨?_, Below.drewL HB.out _⟩
     rw [HE.out]
     simp [hf, hc]
 · go_quiet (fail)
   go_wp2_with fail
   go_ret
   refine ⟨?_, Below.drewL HB.out _⟩
   rw [HE.out]
   simp [hf]
set_option maxHeartbeats 1600000 in
set_option maxRecDepth 100000 in
theorem cAnyHas {v : Value} {ls : List Ms} {w : World} {pm : Nat} {m : Mg} (h : SlM w v (mgs ls)) (hm : OM w pm m) (hl : ls.length ≤ 1000) : Calls Tryz.prog 64 #[v, .func (.func 65) #[] #[ptr pm]] w fun e w' => e = .returned (.bool (ls.any fun x => hasM m x.m)) ∧ Below w.heap.size w w' := by
 have eg : ∀ args w, (callFunc 65 args).run Tryz.prog w = .ok (.enter 65 args) w := enters_of Tryz.func65 (by kernel_rfl) rfl
 have hI := cIndexFuncM h (by unfold mgs; rw [List.length_map]; omega) (fun x => hasM m x) 65 #[ptr pm] eg (fun W x hW => cHas1 x (heapB hm hW (Array.getElem?_eq_some_iff.1 hm).1))
 have hlm : (mgs ls).length = ls.length := by unfold mgs; rw [List.length_map]
 have HL := hid hl
 have HLM := hid hlm
 clear hl hlm hm
 obtain ⟨b, o, cap, a, rfl, ha, hc, hb⟩ := h
 clear ha hc hb
 rw [HLM.out] at hI ⊢
 go_enter Tryz.func64, Tryz.ntmps64
 go_wp2_with fail
 go_at_call 95
 refine hI.mono ?_
 rintro e w1 ⟨hi, hB1⟩
 have HB1 := hid hB1
 clear hI hB1
 rcases hi with hn | ⟨k, x, hx, hpx, hpn⟩
 · have HE : Hid ((ls.any fun x => hasM m x.m) = false) := hid (by
    rw [List.any_eq_false]
    intro y hy
    have := hn y.m (List.mem_map.2 ⟨y, hy, rfl⟩)
    simp [this])
   clear hn
   go_wp2_with fail
   go_ret
   exact ⟨by rw [HE.out]; rfl, HB1.out⟩
 · obtain ⟨y, hy, rfl⟩ := mgs_at hx
   have HE : Hid ((ls.any fun x => hasM m x.m) = true) := hid (by
    rw [List.any_eq_true]
    exact ⟨y, List.mem_of_getElem? hy, hpx⟩)
   have hk : k < 1000 := by have := (List.getElem?_eq_some_iff.1 hy).1; have := HL.out; omega
   have hk0 : (0 : Int) ≤ (k : Int) := by omega
   clear hx hpx hpn hy
   go_wp2_with fail
   go_ret
   exact ⟨by rw [HE.out]; simp, HB1.out⟩
def SoR (w : World) (b : Nat) (ss : List Int) : Prop := ∀ j s, ss[j]? = some s → w.cell? ⟨b, j, none⟩ = some (.int .i64 s)
inductive IdxS (ss : List Int) (x : Int) : Ending → Prop
 | miss : ss.contains x = false → IdxS ss x (.returned (.int .i64 (-1)))
 | hit (k : Nat) : k < ss.length → ss.contains x = true → IdxS ss x (.returned (.int .i64 k))
set_option maxHeartbeats 1600000 in
set_option maxRecDepth 100000 in
theorem cIndexS {w : World} {b cap : Nat} {ss : List Int} (h : SoR w b ss) (hb : b < w.heap.size) (hl : ss.length ≤ 9) (x : Int) : Calls Tryz.prog 113 #[.slice (some ⟨b, 0, none⟩) ss.length cap, .int .i64 x] w fun e w' => IdxS ss x e ∧ w = w' := by
 have HH := hid h
 obtain ⟨m, hm⟩ : ∃ m, m = ss.length := ⟨_, rfl⟩
 rw [← hm] at hl ⊢
 have HN := hid hm
 clear h hm
 go_enter Tryz.func113, Tryz.ntmps113
 go_wp2_with fail
 go_loopg [5, 8] m (fun gg _ s8 wr => ∃ kk : Nat, kk ≤ m ∧ m - kk ≤ gg ∧ s8 = .int .i64 kk ∧ wr = w ∧ Hid (∀ y ∈ ss.take kk, y ≠ x))
 case atStart => exact ⟨0, Nat.zero_le _, by omega, rfl, rfl, hid (by simp)⟩
 case round =>
  obtain ⟨kk, hkk, hg, rfl, rfl, HA⟩ := hrel
  by_cases hlt : kk < m
  · have hltz : (kk : Int) < (m : Int) := by omega
    obtain ⟨y, hy⟩ : ∃ y, ss[kk]? = some y := ⟨ss[kk]'(by rw [← HN.out]; exact hlt), List.getElem?_eq_getElem (by rw [← HN.out]; exact hlt)⟩
    have c0 := HH.out kk y hy
    have HY := hid hy
    clear hy
    by_cases hxy : x = y
    · go_wp2_with fail
      go_ret
      exact ⟨.hit kk (by have := HN.out; omega) (by rw [List.contains_iff_mem, hxy]; exact List.mem_of_getElem? HY.out), rfl⟩
    · go_wp2_with fail
      go_roundg (m - (kk + 1))
      case measure => omega
      case rel => exact ⟨kk + 1, by omega, by omega, by go_num, rfl, hid fun z hz => by
       rw [List.take_add_one, HY.out] at hz
       rcases List.mem_append.1 hz with hz | hz
       · exact HA.out z hz
       · simp at hz; subst hz; exact Ne.symm hxy⟩
  · have hltz : ¬ (kk : Int) < (m : Int) := by omega
    have hkn : kk = m := by omega
    go_wp2_with fail
    go_ret
    refine ⟨.miss ?_, rfl⟩
    rw [Bool.eq_false_iff]
    intro hc
    rw [List.contains_iff_mem] at hc
    exact HA.out x (by rw [hkn, HN.out, List.take_length]; exact hc) rfl
theorem cContainsS {w : World} {b cap : Nat} {ss : List Int} (h : SoR w b ss) (hb : b < w.heap.size) (hl : ss.length ≤ 9) (x : Int) : Calls Tryz.prog 84 #[.slice (some ⟨b, 0, none⟩) ss.length cap, .int .i64 x] w fun e w' => e = .returned (.bool (ss.contains x)) ∧ w = w' := by
 have hI := cIndexS (cap := cap) h hb hl x
 have HL := hid hl
 obtain ⟨m, hm⟩ : ∃ m, m = ss.length := ⟨_, rfl⟩
 rw [← hm] at hI ⊢
 have HN := hid hm
 clear h hm hl
 go_enter Tryz.func84, Tryz.ntmps84
 go_wp2_with fail
 go_at_call 113
 refine hI.mono ?_
 rintro e w1 ⟨hi, rfl⟩
 clear hI
 rcases hi with hn | ⟨k, hk, hc⟩
 · have HE := hid hn
   clear hn
   go_wp2_with fail
   go_ret
   exact ⟨by rw [HE.out]; rfl, rfl⟩
 · have HE := hid hc
   have hk9 : k < 9 := by have := HL.out; have := HN.out; omega
   have hk0 : (0 : Int) ≤ (k : Int) := by omega
   clear hc hk
   go_wp2_with fail
   go_ret
   exact ⟨by rw [HE.out]; simp, rfl⟩
end Go.Proofs.YtplodoindppleaaGreat
