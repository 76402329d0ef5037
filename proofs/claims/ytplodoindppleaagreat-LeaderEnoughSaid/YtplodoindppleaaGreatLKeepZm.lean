import Derived.Test.YtplodoindppleaaGreatLGateZm
import Derived.Test.YtplodoindppleaaGreatLFunZm
namespace Go.Proofs.YtplodoindppleaaGreat
set_option linter.unusedVariables false
open Go.RowKit
open Go.Lib (hid)
set_option maxHeartbeats 8000000 in
set_option maxRecDepth 100000 in
theorem cKeepA {w : World} {B p : Nat} {x : Ax} {m : Ms} (hA : Ap w B p x) (hB : B ≤ w.heap.size) (hl : x.rs.length ≤ 1000) (hm : m.at w) (hs : m.short 1024) : Calls Tryz.prog 67 #[ptr p, .agg m.m.arr] w fun e w' => e = .returned (.tuple #[]) ∧ ∃ x' : Ax, x'.att = x.att.add m.an ∧ x'.c = x.c ∧ Ap w' B p x' ∧ Tch (TA p x) w w' ∧ (∀ k, x'.rv.v.ownBlock = some k → x.rv.v.ownBlock = some k ∨ w.heap.size ≤ k) ∧ (∃ m', x'.rs = x.rs ++ [m'] ∧ m'.an = m.an) ∧ x'.vl = x.vl := by
 have HLE := hid hl
 have HS := hid hs
 have HBW := hid hB
 have HB := hid (laid1_b w (.cells m.m.arr 48))
 have HX : Hid (OM (w.alloc (.cells m.m.arr 48)) w.heap.size m.m) := hid (laid1_0 w _)
 have HA := hid (hA.on HB.out)
 have HM := hid (hm.on HB.out)
 have HPL := hid hA.ob.lt
 have HRB : Hid (∀ k, x.rv.v.ownBlock = some k → k < w.heap.size) := hid (fun k hk => (hA.ow.lt k hk).2)
 have HA00 := hid hA
 clear hA hB hl hm hs
 go_enter Tryz.func67, Tryz.ntmps67
 go_upto_region 1 with fail
 generalize (w.alloc (.cells m.m.arr 48)) = W0 at HB HX HA HM ⊢
 refine rg_start (g := 10) (S0 := fun W => Below w.heap.size w W) (S1 := fun W => OM W w.heap.size m.m) (n := 15) (listed := #[false, false, false, false, false, false, false, false, false, false, false, false, false, false, false]) (by kernel_rfl) rfl rfl ?_
 have HB0 : Hid (Below w.heap.size w W0.drew) := hid (HB.out.trans ((belowDrew (Below.refl _ _)).mono HB.out.size))
 have HX0 : Hid (OM W0.drew w.heap.size m.m) := hid HX.out
 have HM0 := hid (HM.out.on (belowDrew (Below.refl _ W0)))
 have HGL : Hid (∀ L, GS 10 (fun W => Below w.heap.size w W) (fun W => OM W w.heap.size m.m) L W0.drew) := hid (fun L => ⟨HB0.out, .inr HX0.out⟩)
 generalize W0.drew = wd at HB0 HX0 HM0 HGL ⊢
 clear HB HX HM
 refine rg_take (i := 0) (o := ?o1) (v := ?v1) (listed' := ?l1) (a' := ?a1) (by decide : 0 ≠ 10) ?hi1 (by kernel_rfl) (by kernel_rfl) (by kernel_rfl) ?hq1 ?hl1 ?hw1 ?hv1 ?ha1 (HGL.out _) ?hh1
 case hi1 => (simp only [List.getElem?_toArray, List.getElem?_cons_zero]; try rfl)
 case hq1 => exact fun _ _ _ h => h
 case hl1 => (simp only [List.setIfInBounds_toArray, List.set_cons_zero]; try rfl)
 case hw1 => rfl
 case hv1 =>
  intro W hW
  go_simp
  try with_reducible rfl
 case ha1 => (simp only [Act.put,gD,gE,gF]; try rfl)
 refine rg_take (i := 3) (o := ?o2) (v := ?v2) (listed' := ?l2) (a' := ?a2) (by decide : 3 ≠ 10) ?hi2 (by kernel_rfl) (by kernel_rfl) (by kernel_rfl) ?hq2 ?hl2 ?hw2 ?hv2 ?ha2 (HGL.out _) ?hh2
 case hi2 => (simp only [gA,gB,gC]; try rfl)
 case hq2 => exact fun _ _ _ h => h
 case hl2 => (simp only [gD,gE,gF]; try rfl)
 case hw2 => rfl
 case hv2 =>
  intro W hW
  go_simp
  try with_reducible rfl
 case ha2 => (simp only [Act.put,gD,gE,gF]; try rfl)
 refine rg_take (i := 6) (o := ?o3) (v := ?v3) (listed' := ?l3) (a' := ?a3) (by decide : 6 ≠ 10) ?hi3 (by kernel_rfl) (by kernel_rfl) (by kernel_rfl) ?hq3 ?hl3 ?hw3 ?hv3 ?ha3 (HGL.out _) ?hh3
 case hi3 => (simp only [gA,gB,gC]; try rfl)
 case hq3 => exact fun _ _ _ h => h
 case hl3 => (simp only [gD,gE,gF]; try rfl)
 case hw3 => rfl
 case hv3 =>
  intro W hW
  go_simp
  try with_reducible rfl
 case ha3 => (simp only [Act.put,gD,gE,gF]; try rfl)
 refine rg_load (i := 1) (o := ?o4) (cs := vcs m.m.vt m.m.vp) (T := 34) (x := ?x4) (b := ?b4) (q := ?q4) (listed' := ?l4) (a' := ?a4) (by decide : 1 ≠ 10) (by kernel_rfl) rfl ?hi4 (by kernel_rfl) (by kernel_rfl) (by kernel_rfl) ?hq4 ?hl4 ?hg4 ?ho4 ?hx4 ?hc4 Tryz.underlying34 rfl (infoVl m.m.vt m.m.vp) ?ha4 (HGL.out _) ?hh4
 case hi4 => (simp only [gA,gB,gC]; try rfl)
 case hq4 => exact fun _ _ _ h => h
 case hl4 => (simp only [gD,gE,gF]; try rfl)
 case hg4 => rfl
 case ho4 => rfl
 case hx4 => rfl
 case hc4 => exact fun W hW => OM.vV hW.2
 case ha4 => (show Act.put _ _ (Value.agg (varr m.m.vt m.m.vp)) = _); (simp only [Act.put,gD,gE,gF]; try rfl)
 refine rg_load (i := 4) (o := ?o5) (cs := vcs m.m.xt m.m.xp) (T := 34) (x := ?x5) (b := ?b5) (q := ?q5) (listed' := ?l5) (a' := ?a5) (by decide : 4 ≠ 10) (by kernel_rfl) rfl ?hi5 (by kernel_rfl) (by kernel_rfl) (by kernel_rfl) ?hq5 ?hl5 ?hg5 ?ho5 ?hx5 ?hc5 Tryz.underlying34 rfl (infoVl m.m.xt m.m.xp) ?ha5 (HGL.out _) ?hh5
 case hi5 => (simp only [gA,gB,gC]; try rfl)
 case hq5 => exact fun _ _ _ h => h
 case hl5 => (simp only [gD,gE,gF]; try rfl)
 case hg5 => rfl
 case ho5 => rfl
 case hx5 => rfl
 case hc5 => exact fun W hW => OM.aV hW.2
 case ha5 => (show Act.put _ _ (Value.agg (varr m.m.xt m.m.xp)) = _); (simp only [Act.put,gD,gE,gF]; try rfl)
 refine rg_load (i := 7) (o := ?o6) (cs := vcs m.m.ft m.m.fp) (T := 34) (x := ?x6) (b := ?b6) (q := ?q6) (listed' := ?l6) (a' := ?a6) (by decide : 7 ≠ 10) (by kernel_rfl) rfl ?hi6 (by kernel_rfl) (by kernel_rfl) (by kernel_rfl) ?hq6 ?hl6 ?hg6 ?ho6 ?hx6 ?hc6 Tryz.underlying34 rfl (infoVl m.m.ft m.m.fp) ?ha6 (HGL.out _) ?hh6
 case hi6 => (simp only [gA,gB,gC]; try rfl)
 case hq6 => exact fun _ _ _ h => h
 case hl6 => (simp only [gD,gE,gF]; try rfl)
 case hg6 => rfl
 case ho6 => rfl
 case hx6 => rfl
 case hc6 => exact fun W hW => OM.fV hW.2
 case ha6 => (show Act.put _ _ (Value.agg (varr m.m.ft m.m.fp)) = _); (simp only [Act.put,gD,gE,gF]; try rfl)
 refine rg_op (i := 2) (o := ?o7) (listed' := ?l7) (by kernel_rfl) ?hi7 ?hl7 ?hg7 ?hh7
 case hi7 => (simp only [gA,gB,gC]; try rfl)
 case hl7 => (simp only [gD,gE,gF]; try rfl)
 case hg7 => rfl
 intro K hK
 go_simp
 refine (cOwnL (HM0.out.1) (Nat.le_trans HS.out.1 (by decide))).mono ?_
 rintro z wo0 ⟨⟨rva, rvn, rvc⟩, rfl, hs, hB⟩
 have HB1 : Hid (Below w.heap.size w wo0) := hid (HB0.out.trans (hB.mono HB0.out.size))
 have HX1 : Hid (OM wo0 w.heap.size m.m) := hid (heapB HX0.out hB (Array.getElem?_eq_some_iff.1 HX0.out).1)
 have HM1 := hid (HM0.out.on hB)
 have HRv1 := hid hs
 have HGL1 : Hid (∀ L, GS 10 (fun W => Below w.heap.size w W) (fun W => OM W w.heap.size m.m) L wo0) := hid (fun L => ⟨HB1.out, .inr HX1.out⟩)
 clear hs hB
 refine hK.out _ _ (HGL1.out _) ?_
 clear hK K
 refine rg_take (i := 9) (o := ?o8) (v := ?v8) (listed' := ?l8) (a' := ?a8) (by decide : 9 ≠ 10) ?hi8 (by kernel_rfl) (by kernel_rfl) (by kernel_rfl) ?hq8 ?hl8 ?hw8 ?hv8 ?ha8 (HGL1.out _) ?hh8
 case hi8 => (simp only [gA,gB,gC]; try rfl)
 case hq8 => exact fun _ _ _ h => h
 case hl8 => (simp only [gD,gE,gF]; try rfl)
 case hw8 => rfl
 case hv8 =>
  intro W hW
  go_simp
  try with_reducible rfl
 case ha8 => (simp only [Act.put,gD,gE,gF]; try rfl)
 refine rg_op (i := 5) (o := ?o9) (listed' := ?l9) (by kernel_rfl) ?hi9 ?hl9 ?hg9 ?hh9
 case hi9 => (simp only [gA,gB,gC]; try rfl)
 case hl9 => (simp only [gD,gE,gF]; try rfl)
 case hg9 => rfl
 intro K hK
 go_simp
 refine (cOwnL (HM1.out.2.1) (Nat.le_trans HS.out.2.1 (by decide))).mono ?_
 rintro z wo1 ⟨⟨raa, ran, rac⟩, rfl, hs, hB⟩
 have HB2 : Hid (Below w.heap.size w wo1) := hid (HB1.out.trans (hB.mono HB1.out.size))
 have HX2 : Hid (OM wo1 w.heap.size m.m) := hid (heapB HX1.out hB (Array.getElem?_eq_some_iff.1 HX1.out).1)
 have HM2 := hid (HM1.out.on hB)
 have HRv2 := hid (HRv1.out.on hB)
 have HRa2 := hid hs
 have HGL2 : Hid (∀ L, GS 10 (fun W => Below w.heap.size w W) (fun W => OM W w.heap.size m.m) L wo1) := hid (fun L => ⟨HB2.out, .inr HX2.out⟩)
 clear hs hB
 refine hK.out _ _ (HGL2.out _) ?_
 clear hK K
 refine rg_op (i := 8) (o := ?o10) (listed' := ?l10) (by kernel_rfl) ?hi10 ?hl10 ?hg10 ?hh10
 case hi10 => (simp only [gA,gB,gC]; try rfl)
 case hl10 => (simp only [gD,gE,gF]; try rfl)
 case hg10 => rfl
 intro K hK
 go_simp
 refine (cOwnL (HM2.out.2.2) (Nat.le_trans HS.out.2.2 (by decide))).mono ?_
 rintro z wo2 ⟨⟨rfa, rfn, rfc⟩, rfl, hs, hB⟩
 have HB3 : Hid (Below w.heap.size w wo2) := hid (HB2.out.trans (hB.mono HB2.out.size))
 have HX3 : Hid (OM wo2 w.heap.size m.m) := hid (heapB HX2.out hB (Array.getElem?_eq_some_iff.1 HX2.out).1)
 have HM3 := hid (HM2.out.on hB)
 have HRv3 := hid (HRv2.out.on hB)
 have HRa3 := hid (HRa2.out.on hB)
 have HRf3 := hid hs
 have HGL3 : Hid (∀ L, GS 10 (fun W => Below w.heap.size w W) (fun W => OM W w.heap.size m.m) L wo2) := hid (fun L => ⟨HB3.out, .inr HX3.out⟩)
 clear hs hB
 refine hK.out _ _ (HGL3.out _) ?_
 clear hK K
 refine rg_storeMV (i := 10) (o := ?o11) (listed' := ?l11) (x := ?x11) (y := ?y11) (b := w.heap.size) (m.m) m.m.vt ⟨rva, rvn, rvc⟩ (by kernel_rfl) ?hi11 ?hl11 ?hg11 ?ho11 ?hx11 ?hy11 ?hd11 HX3.out  ?hh11
 case hi11 => (simp only [gA,gB,gC]; try rfl)
 case hl11 => (simp only [gD,gE,gF]; try rfl)
 case hg11 => rfl
 case ho11 => rfl
 case hx11 => rfl
 case hy11 => rfl
 case hd11 => rfl
 intro ws0 hO hU
 have HY0 : Hid (OM ws0 w.heap.size { m.m with vp := ⟨rva, rvn, rvc⟩ }) := hid hO
 have HC0 : Hid (Below w.heap.size w ws0) := hid (HB3.out.trans (hU.below _ (Nat.le_refl _)))
 have HT0 : Hid (Tch (fun k => k = w.heap.size) wo2 ws0) := hid hU.tch
 have HH0 : Hid (∀ L : Array Bool, L.getD 10 true = true → GS 10 (fun W => Below w.heap.size w W) (fun W => OM W w.heap.size m.m) L ws0) := hid (fun L hL => ⟨HC0.out, .inl hL⟩)
 clear hO hU
 refine ⟨HH0.out _ rfl, ?_⟩
 refine rg_take (i := 11) (o := ?o12) (v := ?v12) (listed' := ?l12) (a' := ?a12) (by decide : 11 ≠ 10) ?hi12 (by kernel_rfl) (by kernel_rfl) (by kernel_rfl) ?hq12 ?hl12 ?hw12 ?hv12 ?ha12 (HH0.out _ rfl) ?hh12
 case hi12 => (simp only [gA,gB,gC]; try rfl)
 case hq12 => exact fun _ _ _ h => h
 case hl12 => (simp only [gD,gE,gF]; try rfl)
 case hw12 => rfl
 case hv12 =>
  intro W hW
  go_simp
  try with_reducible rfl
 case ha12 => (simp only [Act.put,gD,gE,gF]; try rfl)
 refine rg_storeMA (i := 12) (o := ?o13) (listed' := ?l13) (x := ?x13) (y := ?y13) (b := w.heap.size) ({ m.m with vp := ⟨rva, rvn, rvc⟩ }) m.m.xt ⟨raa, ran, rac⟩ (by kernel_rfl) ?hi13 ?hl13 ?hg13 ?ho13 ?hx13 ?hy13 ?hd13 HY0.out  ?hh13
 case hi13 => (simp only [gA,gB,gC]; try rfl)
 case hl13 => (simp only [gD,gE,gF]; try rfl)
 case hg13 => rfl
 case ho13 => rfl
 case hx13 => rfl
 case hy13 => rfl
 case hd13 => rfl
 intro ws1 hO hU
 have HY1 : Hid (OM ws1 w.heap.size { m.m with vp := ⟨rva, rvn, rvc⟩, xp := ⟨raa, ran, rac⟩ }) := hid hO
 have HC1 : Hid (Below w.heap.size w ws1) := hid (HC0.out.trans (hU.below _ (Nat.le_refl _)))
 have HT1 : Hid (Tch (fun k => k = w.heap.size) ws0 ws1) := hid hU.tch
 have HH1 : Hid (∀ L : Array Bool, L.getD 10 true = true → GS 10 (fun W => Below w.heap.size w W) (fun W => OM W w.heap.size m.m) L ws1) := hid (fun L hL => ⟨HC1.out, .inl hL⟩)
 clear hO hU
 refine ⟨HH1.out _ rfl, ?_⟩
 refine rg_take (i := 13) (o := ?o14) (v := ?v14) (listed' := ?l14) (a' := ?a14) (by decide : 13 ≠ 10) ?hi14 (by kernel_rfl) (by kernel_rfl) (by kernel_rfl) ?hq14 ?hl14 ?hw14 ?hv14 ?ha14 (HH1.out _ rfl) ?hh14
 case hi14 => (simp only [gA,gB,gC]; try rfl)
 case hq14 => exact fun _ _ _ h => h
 case hl14 => (simp only [gD,gE,gF]; try rfl)
 case hw14 => rfl
 case hv14 =>
  intro W hW
  go_simp
  try with_reducible rfl
 case ha14 => (simp only [Act.put,gD,gE,gF]; try rfl)
 refine rg_storeMF (i := 14) (o := ?o15) (listed' := ?l15) (x := ?x15) (y := ?y15) (b := w.heap.size) ({ m.m with vp := ⟨rva, rvn, rvc⟩, xp := ⟨raa, ran, rac⟩ }) m.m.ft ⟨rfa, rfn, rfc⟩ (by kernel_rfl) ?hi15 ?hl15 ?hg15 ?ho15 ?hx15 ?hy15 ?hd15 HY1.out  ?hh15
 case hi15 => (simp only [gA,gB,gC]; try rfl)
 case hl15 => (simp only [gD,gE,gF]; try rfl)
 case hg15 => rfl
 case ho15 => rfl
 case hx15 => rfl
 case hy15 => rfl
 case hd15 => rfl
 intro ws2 hO hU
 have HY2 : Hid (OM ws2 w.heap.size { m.m with vp := ⟨rva, rvn, rvc⟩, xp := ⟨raa, ran, rac⟩, fp := ⟨rfa, rfn, rfc⟩ }) := hid hO
 have HC2 : Hid (Below w.heap.size w ws2) := hid (HC1.out.trans (hU.below _ (Nat.le_refl _)))
 have HT2 : Hid (Tch (fun k => k = w.heap.size) ws1 ws2) := hid hU.tch
 have HH2 : Hid (∀ L : Array Bool, L.getD 10 true = true → GS 10 (fun W => Below w.heap.size w W) (fun W => OM W w.heap.size m.m) L ws2) := hid (fun L hL => ⟨HC2.out, .inl hL⟩)
 clear hO hU
 refine ⟨HH2.out _ rfl, ?_⟩
 refine rg_done (by kernel_rfl) ?_ _
 have HNC : Hid (∀ W y, OM W w.heap.size y → ∀ k, k = w.heap.size → ∀ cur fz, W.heap[k]? ≠ some (.cells cur 42 fz)) := hid (fun W y hy k hk cur fz h => by subst hk; rw [show W.heap[w.heap.size]? = _ from hy] at h; injection h with h; injection h with _ e; exact absurd e (by decide))
 have HDv := hid (((HRv3.out.tch HT0.out (HNC.out _ _ HX3.out)).tch HT1.out (HNC.out _ _ HY0.out)).tch HT2.out (HNC.out _ _ HY1.out))
 have HDa := hid (((HRa3.out.tch HT0.out (HNC.out _ _ HX3.out)).tch HT1.out (HNC.out _ _ HY0.out)).tch HT2.out (HNC.out _ _ HY1.out))
 have HDf := hid (((HRf3.out.tch HT0.out (HNC.out _ _ HX3.out)).tch HT1.out (HNC.out _ _ HY0.out)).tch HT2.out (HNC.out _ _ HY1.out))
 have HAe := hid (HA00.out.on HC2.out)
 obtain ⟨m2, hm2⟩ : ∃ z, z = (⟨{ m.m with vp := ⟨rva, rvn, rvc⟩, xp := ⟨raa, ran, rac⟩, fp := ⟨rfa, rfn, rfc⟩ }, m.v, m.a, m.f⟩ : Ms) := ⟨_, rfl⟩
 have HME : Hid (m2.an = m.an) := hid (by rw [hm2]; rfl)
 have HMX : Hid (OM ws2 w.heap.size m2.m) := hid (by rw [hm2]; exact HY2.out)
 have HMD : Hid (m2.atD ws2) := hid (by rw [hm2]; exact ⟨HDv.out, HDa.out, HDf.out⟩)
 clear hm2 HGL HGL1 HGL2 HGL3 HH0 HH1 HH2 HB0 HB1 HB2 HB3 HX0 HX1 HX2 HX3 HM0 HM1 HM2 HM3 HRv1 HRv2 HRv3 HRa2 HRa3 HRf3 HY0 HY1 HY2 HT0 HT1 HT2 HC0 HC1 HDv HDa HDf HNC
 go_upto_region 2 with fail
 refine rg_start (g := 10) (S0 := fun W => Tch (TA p x) ws2 W) (S1 := fun W => OA W p x ∧ OM W w.heap.size m2.m) (n := 11) (listed := #[false, false, false, false, false, false, false, false, false, false, false]) (by kernel_rfl) rfl rfl ?_
 have HT0 : Hid (Tch (TA p x) ws2 ws2.drew) := hid (Tch.ofBelow (belowDrew (Below.refl _ ws2)))
 have HP0 : Hid (OA ws2.drew p x) := hid HAe.out.ob
 have HX0 : Hid (OM ws2.drew w.heap.size m2.m) := hid HMX.out
 have HO0 : Hid (OwnM ws2.drew B x.rv.v (mgs x.rs)) := hid (OwnG.on HAe.out.ow (belowDrew (Below.refl _ ws2)))
 have HG0 : Hid (∀ L, GS 10 (fun W => Tch (TA p x) ws2 W) (fun W => OA W p x ∧ OM W w.heap.size m2.m) L ws2.drew) := hid (fun L => ⟨HT0.out, .inr ⟨HP0.out, HX0.out⟩⟩)
 have HSZ : Hid (ws2.heap.size ≤ ws2.drew.heap.size) := hid HT0.out.size
 generalize ws2.drew = wd at HT0 HP0 HX0 HO0 HG0 HSZ ⊢
 refine rg_take (i := 0) (o := ?o16) (v := ?v16) (listed' := ?l16) (a' := ?a16) (by decide : 0 ≠ 10) ?hi16 (by kernel_rfl) (by kernel_rfl) (by kernel_rfl) ?hq16 ?hl16 ?hw16 ?hv16 ?ha16 (HG0.out _) ?hh16
 case hi16 => (simp only [List.getElem?_toArray, List.getElem?_cons_zero]; try rfl)
 case hq16 => exact fun _ _ _ h => h
 case hl16 => (simp only [List.setIfInBounds_toArray, List.set_cons_zero]; try rfl)
 case hw16 => rfl
 case hv16 =>
  intro W hW
  go_simp
  try with_reducible rfl
 case ha16 => (simp only [Act.put,gD,gE,gF]; try rfl)
 refine rg_take (i := 1) (o := ?o17) (v := ?v17) (listed' := ?l17) (a' := ?a17) (by decide : 1 ≠ 10) ?hi17 (by kernel_rfl) (by kernel_rfl) (by kernel_rfl) ?hq17 ?hl17 ?hw17 ?hv17 ?ha17 (HG0.out _) ?hh17
 case hi17 => (simp only [gA,gB,gC]; try rfl)
 case hq17 => exact fun _ _ _ h => h
 case hl17 => (simp only [gD,gE,gF]; try rfl)
 case hw17 => rfl
 case hv17 =>
  intro W hW
  go_simp
  try with_reducible rfl
 case ha17 => (simp only [Act.put,gD,gE,gF]; try rfl)
 refine rg_take (i := 2) (o := ?o18) (v := ?v18) (listed' := ?l18) (a' := ?a18) (by decide : 2 ≠ 10) ?hi18 (by kernel_rfl) (by kernel_rfl) (by kernel_rfl) ?hq18 ?hl18 ?hw18 ?hv18 ?ha18 (HG0.out _) ?hh18
 case hi18 => (simp only [gA,gB,gC]; try rfl)
 case hq18 => exact fun _ _ _ h => h
 case hl18 => (simp only [gD,gE,gF]; try rfl)
 case hw18 => rfl
 case hv18 =>
  intro W hW
  go_simp
  try with_reducible rfl
 case ha18 => (simp only [Act.put,gD,gE,gF]; try rfl)
 refine rg_take (i := 3) (o := ?o19) (v := ?v19) (listed' := ?l19) (a' := ?a19) (by decide : 3 ≠ 10) ?hi19 (by kernel_rfl) (by kernel_rfl) (by kernel_rfl) ?hq19 ?hl19 ?hw19 ?hv19 ?ha19 (HG0.out _) ?hh19
 case hi19 => (simp only [gA,gB,gC]; try rfl)
 case hq19 => exact fun _ _ _ h => h
 case hl19 => (simp only [gD,gE,gF]; try rfl)
 case hw19 => rfl
 case hv19 =>
  intro W hW
  go_simp
  try with_reducible rfl
 case ha19 => (simp only [Act.put,gD,gE,gF]; try rfl)
 refine rg_take1 (i := 4) (o := ?o20) (v := ?v20) (listed' := ?l20) (a' := ?a20) (by decide : 4 ≠ 10) (by kernel_rfl) rfl ?hi20 (by kernel_rfl) (by kernel_rfl) (by kernel_rfl) ?hq20 ?hl20 ?hw20 ?hv20 ?ha20 (HG0.out _) ?hh20
 case hi20 => (simp only [gA,gB,gC]; try rfl)
 case hq20 => exact fun _ _ _ h => h
 case hl20 => (simp only [gD,gE,gF]; try rfl)
 case hw20 => rfl
 case hv20 =>
  intro W hW
  have k12 : W.cell? ⟨p, 12, none⟩ = some (.slice x.rv.a x.rv.n x.rv.c) := hW.2.1.cell rfl
  go_simp
  try with_reducible rfl
 case ha20 => (simp only [Act.put,gD,gE,gF]; try rfl)
 refine rg_load (i := 5) (o := ?o21) (cs := m2.m.list) (T := 48) (x := ?x21) (b := ?b21) (q := ?q21) (listed' := ?l21) (a' := ?a21) (by decide : 5 ≠ 10) (by kernel_rfl) rfl ?hi21 (by kernel_rfl) (by kernel_rfl) (by kernel_rfl) ?hq21 ?hl21 ?hg21 ?ho21 ?hx21 ?hc21 Tryz.underlying48 rfl (infoM m2.m) ?ha21 (HG0.out _) ?hh21
 case hi21 => (simp only [gA,gB,gC]; try rfl)
 case hq21 => exact fun _ _ _ h => h
 case hl21 => (simp only [gD,gE,gF]; try rfl)
 case hg21 => rfl
 case ho21 => rfl
 case hx21 => rfl
 case hc21 => exact fun W hW => OM.range hW.2.2
 case ha21 => (show Act.put _ _ (Value.agg m2.m.arr) = _); (simp only [Act.put,gD,gE,gF]; try rfl)
 refine rg_bsM (i := 6) (o := ?o22) (listed' := ?l22) (x := ?x22) m2.m (by kernel_rfl) ?hi22 ?hl22 ?hg22 ?ho22 ?hx22 ?hh22
 case hi22 => (simp only [gA,gB,gC]; try rfl)
 case hl22 => (simp only [gD,gE,gF]; try rfl)
 case hg22 => rfl
 case ho22 => rfl
 case hx22 => rfl
 intro w6 hO hB
 have HT6 : Hid (Tch (TA p x) ws2 w6) := hid (HT0.out.trans (Tch.ofBelow hB))
 have HP6 : Hid (OA w6 p x) := hid (heapB HP0.out hB HP0.out.lt)
 have HX6 : Hid (OM w6 w.heap.size m2.m) := hid (heapB HX0.out hB (Array.getElem?_eq_some_iff.1 HX0.out).1)
 have HO6 : Hid (OwnM w6 B x.rv.v (mgs x.rs)) := hid (OwnG.on HO0.out hB)
 have HN6 : Hid (OM w6 wd.heap.size m2.m) := hid hO
 clear hO hB
 refine ⟨⟨HT6.out, .inr ⟨HP6.out, HX6.out⟩⟩, ?_⟩
 refine rg_append (i := 7) (o := ?o23) (listed' := ?l23) (x := ?x23) (by kernel_rfl) ?hi23 ?hl23 ?hg23 ?s23 ?ho23 B x.rv.v (mgs x.rs) ?hs23 HO6.out ⟨wd.heap.size, 0, none⟩ 1 1 m2.m ?hx23 (OM.sl HN6.out 1) (by have := HLE.out; unfold mgs; rw [List.length_map]; omega) (Nat.le_trans HBW.out (Nat.le_trans HC2.out.size HT6.out.size)) ?hh23
 case hi23 => (simp only [gA,gB,gC]; try rfl)
 case hl23 => (simp only [gD,gE,gF]; try rfl)
 case hg23 => rfl
 case ho23 => rfl
 case hs23 => rfl
 case hx23 => rfl
 intro v7 w7 ho hg hf
 obtain ⟨ra, rc, rn, rfl, hrn⟩ := OwnG.asSlice ho
 clear hrn
 have HTa : Hid (Tch (TA p x) w6 w7) := hid (Tch.ofGrown hg fun k hk => .inr hk)
 have HT7 : Hid (Tch (TA p x) ws2 w7) := hid (HT6.out.trans HTa.out)
 have HGT : Hid (Tch (fun k => x.rv.v.ownBlock = some k) w6 w7) := hid (Tch.ofGrown hg fun k hk => hk)
 have HP7 : Hid (OA w7 p x) := hid (HGT.out.ob HP6.out (fun h => HAe.out.pr h))
 have HX7 : Hid (OM w7 w.heap.size m2.m) := hid (HGT.out.ob HX6.out (fun h => by have := HRB.out _ h; omega))
 have HO7 := hid ho
 have HF7 := hid hf
 clear ho hg hf
 refine ⟨⟨HT7.out, .inr ⟨HP7.out, HX7.out⟩⟩, ?_⟩
 refine rg_take (i := 8) (o := ?o24) (v := ?v24) (listed' := ?l24) (a' := ?a24) (by decide : 8 ≠ 10) ?hi24 (by kernel_rfl) (by kernel_rfl) (by kernel_rfl) ?hq24 ?hl24 ?hw24 ?hv24 ?ha24 (⟨HT7.out, .inr ⟨HP7.out, HX7.out⟩⟩) ?hh24
 case hi24 => (simp only [gA,gB,gC]; try rfl)
 case hq24 => exact fun _ _ _ h => h
 case hl24 => (simp only [gD,gE,gF]; try rfl)
 case hw24 => rfl
 case hv24 =>
  intro W hW
  go_simp
  try with_reducible rfl
 case ha24 => (simp only [Act.put,gD,gE,gF]; try rfl)
 refine rg_take (i := 9) (o := ?o25) (v := ?v25) (listed' := ?l25) (a' := ?a25) (by decide : 9 ≠ 10) ?hi25 (by kernel_rfl) (by kernel_rfl) (by kernel_rfl) ?hq25 ?hl25 ?hw25 ?hv25 ?ha25 (⟨HT7.out, .inr ⟨HP7.out, HX7.out⟩⟩) ?hh25
 case hi25 => (simp only [gA,gB,gC]; try rfl)
 case hq25 => exact fun _ _ _ h => h
 case hl25 => (simp only [gD,gE,gF]; try rfl)
 case hw25 => rfl
 case hv25 =>
  intro W hW
  go_simp
  try with_reducible rfl
 case ha25 => (simp only [Act.put,gD,gE,gF]; try rfl)
 refine rg_storeAs (i := 10) (o := ?o26) (listed' := ?l26) (x := ?x26) (y := ?y26) (p := p) x ({ x with rv := ⟨ra, rn, rc⟩, rs := x.rs ++ [m2] }) ⟨ra, rn, rc⟩ (by kernel_rfl) ?hi26 ?hl26 ?hg26 ?ho26 ?hx26 ?hy26 ?hd26 HP7.out rfl ?hh26
 case hi26 => (simp only [gA,gB,gC]; try rfl)
 case hl26 => (simp only [gD,gE,gF]; try rfl)
 case hg26 => rfl
 case ho26 => rfl
 case hx26 => rfl
 case hy26 => rfl
 case hd26 => rfl
 intro w8 hO hU
 have HP8 : Hid (OA w8 p { x with rv := ⟨ra, rn, rc⟩, rs := x.rs ++ [m2] }) := hid hO
 have HTb : Hid (Tch (fun k => k = p) w7 w8) := hid hU.tch
 have HT8 : Hid (Tch (TA p x) ws2 w8) := hid (HT7.out.trans (HTb.out.mono fun k e => .inl e))
 clear hO hU
 refine ⟨⟨HT8.out, .inl rfl⟩, ?_⟩
 refine rg_done (by kernel_rfl) ?_ _
 go_wp2_with fail
 go_end0
 have hno : ∀ k, TA p x k → B ≤ k ∧ ∀ cur fz, ws2.heap[k]? ≠ some (.cells cur 42 fz) := HAe.out.no
 refine ⟨rfl, { x with rv := ⟨ra, rn, rc⟩, rs := x.rs ++ [m2] }, ?_, rfl, ⟨HP8.out, ?_, HAe.out.vs.tch HT8.out hno, ?_, HAe.out.lb⟩, (Tch.ofBelow HC2.out).trans HT8.out, ?_, ⟨m2, rfl, HME.out⟩, rfl⟩
 · unfold Ax.att Att.add; simp [HME.out]
 · have h9 := own_tch (n := (mgs (x.rs ++ [m2])).length) (by have := HO7.out; unfold mgs at this ⊢; simpa using this : OwnM w7 B (Sv.v ⟨ra, rn, rc⟩) (mgs (x.rs ++ [m2]))) HTb.out (fun k hk e => by
    subst e
    rcases HF7.out k hk with h | h
    · exact HAe.out.pr h
    · have := HP6.out.lt; omega)
   exact h9
 · intro y hy
   rcases List.mem_append.1 hy with hy | hy
   · exact (HAe.out.rs y hy).tch HT8.out hno
   · rw [List.mem_singleton] at hy; subst hy; exact (HMD.out.atC).tch HT8.out hno
 · intro k hk
   rcases HF7.out k hk with h | h
   · exact .inl h
   · exact .inr (Nat.le_trans HC2.out.size (Nat.le_trans HT6.out.size h))
end Go.Proofs.YtplodoindppleaaGreat
