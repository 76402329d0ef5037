import Derived.Test.YtplodoindppleaaGreatLFunZm
import Derived.Laws.MakeOwn
import Derived.OwnWalk
namespace Go.Proofs.YtplodoindppleaaGreat
set_option linter.unusedVariables false
open Go.RowKit
open Go.Lib (hid)
def askM (so vt : Int) (vp : Sv) (fl : Bool) : Mg := ⟨so, 0, 0, 0, z7, vt, vp, fl, 0, 0, 0, zS, 0, zS⟩
def msgM (so nd tt bal : Int) (c : C7) (vt : Int) (vp : Sv) (fl : Bool) : Mg := ⟨so, nd, tt, bal, c, vt, vp, fl, 0, 0, 0, zS, 0, zS⟩
theorem made_zero (n : Nat) : (madeCells zM.arr (n * 20)).toList = flatG Mg.list (List.replicate n zM) := by
 apply List.ext_getElem?
 intro j
 by_cases hj : j < n * 20
 · have hlt : j / 20 < n := Nat.div_lt_of_lt_mul (by rw [Nat.mul_comm]; exact hj)
   have hr : j % 20 < zM.list.length := Nat.mod_lt _ (by decide)
   have hm := flatG_at kM (List.replicate n zM) (j / 20) zM (by rw [List.getElem?_replicate, if_pos hlt]) (j % 20) _ (List.getElem?_eq_getElem hr)
   rw [show j / 20 * 20 + j % 20 = j by omega] at hm
   rw [hm]
   have hz : j % zM.arr.size < zM.arr.size := Nat.mod_lt _ (by decide)
   unfold madeCells
   rw [Array.getElem?_toList, Array.getElem?_map, Array.getElem?_range, if_pos hj]
   show some (zM.arr[j % zM.arr.size]!) = _
   rw [getElem!_pos zM.arr _ hz]
   rfl
 · rw [List.getElem?_eq_none (by rw [Array.length_toList, size_madeCells]; omega), List.getElem?_eq_none (by rw [flatG_len kM, List.length_replicate]; omega)]
def RowA (nd bal : Int) (c : C7) (so vt : Int) (vl : List C7) (fl : Bool) (W : World) (Ls : List Ms) (k : Nat) : Prop :=
 Ls.map Ms.an = (List.range k).map (fun (j : Nat) => mkA nd c bal so vt vl fl (j : Int)) ∧ ∀ m ∈ Ls, SetD W m.m.vp.v m.v ∧ m.m.xp = zS ∧ m.a = [] ∧ m.m.fp = zS ∧ m.f = []
theorem RowA.len {nd bal : Int} {c : C7} {so vt : Int} {vl : List C7} {fl : Bool} {W : World} {Ls : List Ms} {k : Nat} (h : RowA nd bal c so vt vl fl W Ls k) : Ls.length = k := by
 have := congrArg List.length h.1
 simpa using this
theorem RowA.tch {S : Nat → Prop} {nd bal : Int} {c : C7} {so vt : Int} {vl : List C7} {fl : Bool} {W W' : World} {Ls : List Ms} {k : Nat} (h : RowA nd bal c so vt vl fl W Ls k) (ht : Tch S W W') (hS : ∀ k, S k → ∀ cur fz, W.heap[k]? ≠ some (.cells cur 42 fz)) : RowA nd bal c so vt vl fl W' Ls k := ⟨h.1, fun m hm => ⟨(h.2 m hm).1.tch ht hS, (h.2 m hm).2⟩⟩
theorem RowA.next {nd bal : Int} {c : C7} {so vt : Int} {vl : List C7} {fl : Bool} {W : World} {Ls : List Ms} {k : Nat} (h : RowA nd bal c so vt vl fl W Ls k) {r : Sv} (hr : SetD W r.v vl) {bl : Int} (hbl : bl = if so = 7 then 0 else bal) : RowA nd bal c so vt vl fl W (Ls ++ [⟨msgM so nd k bl c vt r fl, vl, [], []⟩]) (k + 1) := by
 subst hbl
 refine ⟨?_, fun m hm => ?_⟩
 · rw [List.map_append, List.range_succ, List.map_append, h.1]; rfl
 · rcases List.mem_append.1 hm with hm | hm
   · exact h.2 m hm
   · rw [List.mem_singleton] at hm; subst hm; exact ⟨hr, rfl, rfl, rfl, rfl⟩
theorem row_set {Ls : List Ms} {k n : Nat} {m : Ms} (hl : Ls.length = k) (hk : k < n) : (mgs Ls ++ List.replicate (n - k) zM).set k m.m = mgs (Ls ++ [m]) ++ List.replicate (n - (k + 1)) zM := by
 obtain ⟨j, hj⟩ : ∃ j, n - k = j + 1 := ⟨n - k - 1, by omega⟩
 have hml : (mgs Ls).length = k := by unfold mgs; rw [List.length_map]; exact hl
 rw [hj, show n - (k + 1) = j by omega, List.replicate_succ, List.set_append_right _ _ (by omega), hml, Nat.sub_self, List.set_cons_zero]
 unfold mgs
 rw [List.map_append, List.append_assoc]; rfl
theorem row_at0 {Ls : List Ms} {k n : Nat} (hl : Ls.length = k) (hk : k < n) : (mgs Ls ++ List.replicate (n - k) zM)[k]? = some zM := by
 have hml : (mgs Ls).length = k := by unfold mgs; rw [List.length_map]; exact hl
 rw [List.getElem?_append_right (by omega), hml, Nat.sub_self, List.getElem?_replicate, if_pos (by omega)]
theorem OM.no {w : World} {p : Nat} {x : Mg} (h : OM w p x) : ∀ cur fz, w.heap[p]? ≠ some (.cells cur 42 fz) := fun cur fz e => by
 rw [h] at e; injection e with e; injection e with _ e; exact absurd e (by decide)
def ToAllP (w : World) (nd N : Int) (c : C7) (bal so vt : Int) (vl : List C7) (fl : Bool) (e : Ending) (w' : World) : Prop :=
 ∃ v ls, e = .returned v ∧ OutM w.heap.size w' v ls ∧ ls.map Ms.an = allF nd N c bal so vt vl fl ∧ Below w.heap.size w w'
theorem ToAllP.none {w w' : World} {nd N : Int} {c : C7} {bal so vt : Int} {vl : List C7} {fl : Bool} (h : rightA (mkA nd c bal so vt vl fl 0) = false) (hb : Below w.heap.size w w') : ToAllP w nd N c bal so vt vl fl (.returned (.slice Option.none 0 0)) w' :=
 ⟨_, [], rfl, OutM.nil _ _, by unfold allF; rw [if_neg (by rw [h]; decide)]; rfl, hb⟩
theorem ToAllP.all {w w' : World} {nd N : Int} {c : C7} {bal so vt : Int} {vl : List C7} {fl : Bool} {n : Nat} {g : Nat} {Ls : List Ms} (h : rightA (mkA nd c bal so vt vl fl 0) = true) (hn : N.toNat = n) (hr : RowA nd bal c so vt vl fl w' Ls n) (ho : OwnM w' w.heap.size (.slice (some ⟨g, 0, Option.none⟩) n n) (mgs Ls)) (hb : Below w.heap.size w w') : ToAllP w nd N c bal so vt vl fl (.returned (.slice (some ⟨g, 0, Option.none⟩) n n)) w' := by
 refine ⟨_, Ls, rfl, ⟨OwnG.slG kM ho, .inr ⟨_, n, by rw [hr.len]⟩, fun m hm => ?_, fun k hk => ?_⟩, ?_, hb⟩
 · obtain ⟨h1, h2, h3, h4, h5⟩ := hr.2 m hm
   refine ⟨h1, ?_, ?_⟩
   · rw [h2, h3]; exact SetD.nil w'
   · rw [h4, h5]; exact SetD.nil w'
 · obtain ⟨h1, cur, h2⟩ := own_no ho hk
   exact ⟨h1, cur, _, h2⟩
 · rw [hr.1]; unfold allF; rw [if_pos h, hn]
set_option maxHeartbeats 16000000 in
set_option maxRecDepth 100000 in
theorem cToAll {w : World} {B q b n p : Nat} {nd N : Int} {f : Int → Option Nat} {x : Ax} (hL : Lq w B q b n nd N f) (hA : Ap w B p x) (hN : 3 ≤ N ∧ N ≤ 9) (so vt : Int) (vp : Sv) (vl : List C7) (fl : Bool) (hv : Sl w vp.v vl) (hvl : vl.length ≤ 1024) : Calls Tryz.prog 55 #[ptr q, ptr p, .agg (askM so vt vp fl).arr] w (ToAllP w nd N x.c x.bal so vt vl fl) := by
 obtain ⟨i0, hi, hz0, hz1, hz2⟩ := info_parts Tryz.infoMz
 have HL := hid hL
 have HA := hid hA
 have HV := hid hv
 have HVL := hid hvl
 have HI := hid hi
 have HI0 := hid hz0
 have HI1 := hid hz1
 obtain ⟨nn, hnn⟩ : ∃ z, z = N.toNat := ⟨_, rfl⟩
 have hNn : N = (nn : Int) := by omega
 have hn3 : 3 ≤ nn ∧ nn ≤ 9 := by omega
 have HNN := hid hnn.symm
 have HM1 : Hid (i0.bytes * nn ≤ 281474976710656) := hid (by rw [hz2]; omega)
 have HM2 : Hid (nn ≤ maxLen) := hid (by unfold maxLen; omega)
 have HB : Hid (Below w.heap.size w (w.alloc (.cells (askM so vt vp fl).arr 48))) := hid (laid1_b w _)
 have HX : Hid (OM (w.alloc (.cells (askM so vt vp fl).arr 48)) w.heap.size (askM so vt vp fl)) := hid (laid1_0 w _)
 have HLD : Hid (∀ W, Below w.heap.size w W → W.cell? ⟨q, 0, none⟩ = some (.int .i64 nd) ∧ W.cell? ⟨q, 1, none⟩ = some (.int .i64 (nn : Int)) ∧ W.cell? ⟨q, 2, none⟩ = some (.map (some b))) := hid (fun W hW => by have := (HL.out.on hW).cells; rwa [hNn] at this)
 have HBA : Hid (∀ W, Below w.heap.size w W → W.cell? ⟨p, 7, none⟩ = some (.int .i64 x.bal)) := hid (fun W hW => (HA.out.on hW).cells.1)
 obtain ⟨rb, hrb⟩ : ∃ z, z = rightA (mkA nd x.c x.bal so vt vl fl 0) := ⟨_, rfl⟩
 have HRB := hid hrb
 obtain ⟨bl, hbl⟩ : ∃ z, z = if so = 7 then 0 else x.bal := ⟨_, rfl⟩
 have HBL := hid hbl
 have HCR : Hid (∀ W, Below w.heap.size w W → Calls Tryz.prog 28 #[.agg (msgM so nd 0 bl x.c vt vp fl).arr] W fun e w' => e = .returned (.bool rb) ∧ Below W.heap.size W w') := hid (fun W hW => by rw [hrb, hbl]; exact cRightM (m := ⟨msgM so nd 0 (if so = 7 then 0 else x.bal) x.c vt vp fl, vl, [], []⟩) ⟨HV.out.on hW, (Own.nil W 0).sl, (Own.nil W 0).sl⟩ ⟨HVL.out, Nat.zero_le _, Nat.zero_le _⟩)
 clear hL hA hv hvl hi hz0 hz1 hz2 hnn hrb hbl hN hNn
 go_enter Tryz.func55, Tryz.ntmps55
 go_upto_region 1 with fail
 generalize (w.alloc (.cells (askM so vt vp fl).arr 48)) = W0 at HB HX ⊢
 refine rh_start (S := fun W => Below w.heap.size w W) (n := 12) (listed := #[false, false, false, false, false, false, false, false, false, false, false, false]) (by kernel_rfl) rfl rfl ?_
 have HS0 : Hid (Below w.heap.size w W0.drew) := hid (HB.out.trans ((belowDrew (Below.refl _ _)).mono HB.out.size))
 have HX0 : Hid (OM W0.drew w.heap.size (askM so vt vp fl)) := hid HX.out
 generalize W0.drew = wd at HS0 HX0 ⊢
 clear HB HX
 refine tkS 0 ?o1 ?v1 ?l1 ?a1 ?hi1 ?hq1 ?hl1 ?hw1 ?hv1 ?ha1 HS0.out ?hh1
 case hi1 => (simp only [List.getElem?_toArray, List.getElem?_cons_zero]; try rfl)
 case hq1 => exact fun _ _ _ h => h
 case hl1 => (simp only [List.setIfInBounds_toArray, List.set_cons_zero]; try rfl)
 case hw1 => rfl
 case hv1 =>
  intro W hW
  go_simp
  try with_reducible rfl
 case ha1 => (simp only [Act.put,gD,gE,gF]; try rfl)
 refine tkS 1 ?o2 ?v2 ?l2 ?a2 ?hi2 ?hq2 ?hl2 ?hw2 ?hv2 ?ha2 HS0.out ?hh2
 case hi2 => (simp only [gA,gB,gC]; try rfl)
 case hq2 => exact fun _ _ _ h => h
 case hl2 => (simp only [gD,gE,gF]; try rfl)
 case hw2 => rfl
 case hv2 =>
  intro W hW
  go_simp
  try with_reducible rfl
 case ha2 => (simp only [Act.put,gD,gE,gF]; try rfl)
 refine tkS 2 ?o3 ?v3 ?l3 ?a3 ?hi3 ?hq3 ?hl3 ?hw3 ?hv3 ?ha3 HS0.out ?hh3
 case hi3 => (simp only [gA,gB,gC]; try rfl)
 case hq3 => exact fun _ _ _ h => h
 case hl3 => (simp only [gD,gE,gF]; try rfl)
 case hw3 => rfl
 case hv3 =>
  intro W hW
  go_simp
  try with_reducible rfl
 case ha3 => (simp only [Act.put,gD,gE,gF]; try rfl)
 refine tkS 3 ?o4 ?v4 ?l4 ?a4 ?hi4 ?hq4 ?hl4 ?hw4 ?hv4 ?ha4 HS0.out ?hh4
 case hi4 => (simp only [gA,gB,gC]; try rfl)
 case hq4 => exact fun _ _ _ h => h
 case hl4 => (simp only [gD,gE,gF]; try rfl)
 case hw4 => rfl
 case hv4 =>
  intro W hW
  obtain ⟨k0, k1, k2⟩ := HLD.out W hW
  go_simp
  try with_reducible rfl
 case ha4 => (simp only [Act.put,gD,gE,gF]; try rfl)
 refine tkS 4 ?o5 ?v5 ?l5 ?a5 ?hi5 ?hq5 ?hl5 ?hw5 ?hv5 ?ha5 HS0.out ?hh5
 case hi5 => (simp only [gA,gB,gC]; try rfl)
 case hq5 => exact fun _ _ _ h => h
 case hl5 => (simp only [gD,gE,gF]; try rfl)
 case hw5 => rfl
 case hv5 =>
  intro W hW
  go_simp
  try with_reducible rfl
 case ha5 => (simp only [Act.put,gD,gE,gF]; try rfl)
 refine tkS 5 ?o6 ?v6 ?l6 ?a6 ?hi6 ?hq6 ?hl6 ?hw6 ?hv6 ?ha6 HS0.out ?hh6
 case hi6 => (simp only [gA,gB,gC]; try rfl)
 case hq6 => exact fun _ _ _ h => h
 case hl6 => (simp only [gD,gE,gF]; try rfl)
 case hw6 => rfl
 case hv6 =>
  intro W hW
  go_simp
  try with_reducible rfl
 case ha6 => (simp only [Act.put,gD,gE,gF]; try rfl)
 refine tkS 6 ?o7 ?v7 ?l7 ?a7 ?hi7 ?hq7 ?hl7 ?hw7 ?hv7 ?ha7 HS0.out ?hh7
 case hi7 => (simp only [gA,gB,gC]; try rfl)
 case hq7 => exact fun _ _ _ h => h
 case hl7 => (simp only [gD,gE,gF]; try rfl)
 case hw7 => rfl
 case hv7 =>
  intro W hW
  go_simp
  try with_reducible rfl
 case ha7 => (simp only [Act.put,gD,gE,gF]; try rfl)
 refine rh_load (i := 7) (o := ?o8) (cs := x.c.cells) (T := 42) (x := ?x8) (b := ?b8) (q := ?q8) (listed' := ?l8) (a' := ?a8) ?hi8 (by kernel_rfl) (by kernel_rfl) (by kernel_rfl) ?hq8 ?hl8 ?hg8 ?ho8 ?hx8 ?hc8 Tryz.underlying42 rfl (show (Tryz.prog.info? 42).map (·.size) = some 7 by kernel_rfl) ?ha8 HS0.out ?hh8
 case hi8 => (simp only [gA,gB,gC]; try rfl)
 case hq8 => exact fun _ _ _ h => h
 case hl8 => (simp only [gD,gE,gF]; try rfl)
 case hg8 => rfl
 case ho8 => rfl
 case hx8 => rfl
 case hc8 => exact fun W hW => (HA.out.on hW).ob.cmdR
 case ha8 => (show Act.put _ _ (Value.agg #[.int .i64 x.c.i, .int .i64 x.c.k, .int .i64 x.c.s, .int .i64 x.c.t, .int .i64 x.c.d, .int .i64 x.c.p, .int .i64 x.c.q]) = _); (simp only [Act.put,gD,gE,gF]; try rfl)
 refine tkS 8 ?o9 ?v9 ?l9 ?a9 ?hi9 ?hq9 ?hl9 ?hw9 ?hv9 ?ha9 HS0.out ?hh9
 case hi9 => (simp only [gA,gB,gC]; try rfl)
 case hq9 => exact fun _ _ _ h => h
 case hl9 => (simp only [gD,gE,gF]; try rfl)
 case hw9 => rfl
 case hv9 =>
  intro W hW
  go_simp
  try with_reducible rfl
 case ha9 => (simp only [Act.put,gD,gE,gF]; try rfl)
 refine wpAnyH_ready (rs := [9]) (by kernel_rfl) (by simp) ?_
 refine rh_storeMi (i := 9) (o := ?o10) (listed' := ?l10) (x := ?x10) (y := ?y10) (b := w.heap.size) (j := 1) (askM so vt vp fl) ({ askM so vt vp fl with fr := nd }) nd ?hi10 ?hl10 ?hg10 ?ho10 ?hx10 ?hy10 ?hd10 HX0.out (by decide) rfl ?hh10 ?hs10
 case hi10 => (simp only [gA,gB,gC]; try rfl)
 case hl10 => (simp only [gD,gE,gF]; try rfl)
 case hg10 => rfl
 case ho10 => rfl
 case hx10 => rfl
 case hy10 => rfl
 case hd10 => rfl
 case hs10 => exact AllReadyH.nil
 intro wq hO hU
 have HX1 := hid hO
 have HS1 : Hid (Below w.heap.size w wq) := hid (HS0.out.trans (hU.below _ (Nat.le_refl _)))
 clear hO hU
 refine ⟨HS1.out, ?_⟩
 refine tkS 10 ?o11 ?v11 ?l11 ?a11 ?hi11 ?hq11 ?hl11 ?hw11 ?hv11 ?ha11 HS1.out ?hh11
 case hi11 => (simp only [gA,gB,gC]; try rfl)
 case hq11 => exact fun _ _ _ h => h
 case hl11 => (simp only [gD,gE,gF]; try rfl)
 case hw11 => rfl
 case hv11 =>
  intro W hW
  go_simp
  try with_reducible rfl
 case ha11 => (simp only [Act.put,gD,gE,gF]; try rfl)
 refine wpAnyH_ready (rs := [11]) (by kernel_rfl) (by simp) ?_
 refine rh_storeMc (i := 11) (o := ?o12) (listed' := ?l12) (x := ?x12) (y := ?y12) (b := w.heap.size) ({ askM so vt vp fl with fr := nd }) x.c ?hi12 ?hl12 ?hg12 ?ho12 ?hx12 ?hy12 ?hd12 HX1.out ?hh12 ?hs12
 case hi12 => (simp only [gA,gB,gC]; try rfl)
 case hl12 => (simp only [gD,gE,gF]; try rfl)
 case hg12 => rfl
 case ho12 => rfl
 case hx12 => rfl
 case hy12 => rfl
 case hd12 => rfl
 case hs12 => exact AllReadyH.nil
 intro we hO hU
 have HX2 : Hid (OM we w.heap.size (msgM so nd 0 0 x.c vt vp fl)) := hid hO
 have HS2 : Hid (Below w.heap.size w we) := hid (HS1.out.trans (hU.below _ (Nat.le_refl _)))
 clear hO hU HX0 HX1 HS0 HS1
 refine ⟨HS2.out, ?_⟩
 refine wpAnyH_done (by kernel_rfl) ?_ _
 have d0 : we.cell? ⟨w.heap.size, 0, none⟩ = some (.int .i64 so) := HX2.out.cell (m := msgM so nd 0 0 x.c vt vp fl) (j := 0) rfl
 have d3 : we.cell? ⟨w.heap.size, 3, none⟩ = some (.int .i64 0) := HX2.out.cell (m := msgM so nd 0 0 x.c vt vp fl) (j := 3) rfl
 have f3 : we.frozen? ⟨w.heap.size, 3, none⟩ = false := HX2.out.free 3
 have e7 := HBA.out _ HS2.out
 by_cases h7 : so = 7
 · have hb0 : bl = 0 := by rw [HBL.out, if_pos h7]
   replace HX2 : Hid (OM we w.heap.size (msgM so nd 0 bl x.c vt vp fl)) := hid (by rw [hb0]; exact HX2.out)
   clear hb0 d3 f3 e7
   go_upto_region 4 with fail
   clear h7 d0
   have HSV := hid (HV.out.on HS2.out)
   rcases rb with _ | _
   · as_aux_lemma =>
      go_wp2_with (first
       | ((with_reducible refine loadM (x := ?lx13) (b := w.heap.size) (msgM so nd 0 bl x.c vt vp fl) ?lg13 ?lo13 ?lxx13 ?lc13 ?lh13); (case lg13 => rfl); (case lo13 => rfl); (case lxx13 => rfl); (case lc13 => exact HX2.out))
       | (go_at_call 28; refine (HCR.out _ HS2.out).mono ?_; rintro e w2 ⟨rfl, hB⟩; have HB2 : Hid (Below w.heap.size w w2) := hid (HS2.out.trans (hB.mono HS2.out.size)); have HX3 : Hid (OM w2 w.heap.size (msgM so nd 0 bl x.c vt vp fl)) := hid (heapB HX2.out hB (Array.getElem?_eq_some_iff.1 HX2.out).1); clear hB)
       | fail)
      go_ret
      exact ToAllP.none HRB.out.symm HB2.out
   · as_aux_lemma =>
      go_upto_region 6 with (first
       | ((with_reducible refine loadM (x := ?lx14) (b := w.heap.size) (msgM so nd 0 bl x.c vt vp fl) ?lg14 ?lo14 ?lxx14 ?lc14 ?lh14); (case lg14 => rfl); (case lo14 => rfl); (case lxx14 => rfl); (case lc14 => exact HX2.out))
       | (go_at_call 28; refine (HCR.out _ HS2.out).mono ?_; rintro e w2 ⟨rfl, hB⟩; have HB2 : Hid (Below w.heap.size w w2) := hid (HS2.out.trans (hB.mono HS2.out.size)); have HX3 : Hid (OM w2 w.heap.size (msgM so nd 0 bl x.c vt vp fl)) := hid (heapB HX2.out hB (Array.getElem?_eq_some_iff.1 HX2.out).1); clear hB)
       | fail)
      obtain ⟨k0, k1, k2⟩ := HLD.out _ HB2.out
      go_wp2_with (first
       | (at_make; refine wpList_make_full w2 rfl _ _ 37 rfl w.heap.size 48 i0 _ 20 Tryz.underlying37 HI.out HI0.out HI1.out _ _ _ _ nn rfl rfl rfl rfl HM1.out HM2.out HB2.out.size ?_; intro w3 hr hg; have HO3 : Hid (OwnM w3 w.heap.size (.slice (some ⟨w2.heap.size, 0, none⟩) nn nn) (List.replicate nn zM)) := hid (by have e : (madeCells (Value.agg zM.arr).cells (nn * 20)).toList = flatG Mg.list (List.replicate nn zM) := made_zero nn; rw [e] at hr; show World.ownsRow _ _ _ _ _ _ _; rw [List.length_replicate]; exact hr); have hb := belowNone hg; have HX4 : Hid (OM w3 w.heap.size (msgM so nd 0 bl x.c vt vp fl)) := hid (heapB HX3.out hb (Array.getElem?_eq_some_iff.1 HX3.out).1); have HB3 : Hid (Below w.heap.size w w3) := hid (HB2.out.trans (hb.mono HB2.out.size)); clear hr hg hb)
       | fail)
      have HQ : Hid (w.heap.size < w2.heap.size) := hid (Array.getElem?_eq_some_iff.1 HX3.out).1
      clear HX2 HS2 HX3 HSV
      obtain ⟨g0, hg0⟩ : ∃ z, z = w2.heap.size := ⟨_, rfl⟩
      rw [← hg0] at HO3 HQ ⊢
      clear hg0
      go_loopw [8, 37] (fun _ i wr => ∃ (k : Nat) (Ls : List Ms) (tt : Int) (r : Sv), k ≤ nn ∧ i = .int .i64 k ∧ Hid (Below w.heap.size w wr) ∧ Hid (OM wr w.heap.size (msgM so nd tt bl x.c vt r fl)) ∧ Hid (Sl wr r.v vl) ∧ Hid (OwnM wr w.heap.size (.slice (some ⟨g0, 0, none⟩) nn nn) (mgs Ls ++ List.replicate (nn - k) zM)) ∧ Hid (RowA nd x.bal x.c so vt vl fl wr Ls k)) (fun _ i _ => nn - (RowKit.intOf i).toNat)
      case atStart => exact ⟨0, [], 0, vp, Nat.zero_le _, rfl, HB3, HX4, hid (HV.out.on HB3.out), HO3, hid ⟨rfl, by simp⟩⟩
      case round =>
       obtain ⟨k, Ls, tt, r, hk, rfl, HB, HX, HSL, HO, HRW⟩ := hrel
       by_cases hlt : k < nn
       · have hlti : ((k : Int) < nn) := by omega
         go_wp2_with (first
          | ((with_reducible refine loadVl (x := ?vx15) (b := w.heap.size) (o := 11) vt r ?vg15 ?vo15 ?vxx15 ?vc15 ?_); (case vg15 => rfl); (case vo15 => rfl); (case vxx15 => rfl); (case vc15 => exact OM.vV (m := msgM so nd tt bl x.c vt r fl) HX.out))
          | (go_at_call 23; refine (cOwnL HSL.out (Nat.le_trans HVL.out (by decide))).mono ?_; rintro e w5 ⟨⟨ra, rn, rc⟩, rfl, hs, hB⟩; have HS5 := hid hs; have HX5 : Hid (OM w5 w.heap.size (msgM so nd tt bl x.c vt r fl)) := hid (heapB HX.out hB (Array.getElem?_eq_some_iff.1 HX.out).1); have HB5 : Hid (Below w.heap.size w w5) := hid (HB.out.trans (hB.mono HB.out.size)); have HO5 := hid (OwnG.on HO.out hB); have HRW5 := hid (HRW.out.tch (Tch.ofBelow (S := fun _ => False) hB) (fun _ h => h.elim)); have c2 : w5.cell? ⟨w.heap.size, 2, none⟩ = some (.int .i64 tt) := HX5.out.cell (m := msgM so nd tt bl x.c vt r fl) (j := 2) rfl; have f2 : w5.frozen? ⟨w.heap.size, 2, none⟩ = false := HX5.out.free 2; clear hs hB)
          | ((with_reducible refine storeMV (x := ?wx16) (y := ?wy16) (b := w.heap.size) (msgM so nd (k : Int) bl x.c vt r fl) vt ⟨ra, rn, rc⟩ ?wg16 ?wo16 ?wxx16 ?wyy16 ?wc16 ?wh16); (case wg16 => rfl); (case wo16 => rfl); (case wxx16 => rfl); (case wyy16 => rfl); (case wc16 => exact OM.set (j := 2) (v := .int .i64 (k : Int)) HX5.out rfl); intro W6 hO hU; have HX6 : Hid (OM W6 w.heap.size (msgM so nd (k : Int) bl x.c vt ⟨ra, rn, rc⟩ fl)) := hid hO; have HT6 : Hid (Tch (fun k => k = w.heap.size) w5 W6) := hid ((setV_tch w5 w.heap.size 2 _).trans hU.tch); clear hO hU)
          | ((with_reducible refine loadM (x := ?lx18) (b := w.heap.size) (msgM so nd (k : Int) bl x.c vt ⟨ra, rn, rc⟩ fl) ?lg18 ?lo18 ?lxx18 ?lc18 ?lh18); (case lg18 => rfl); (case lo18 => rfl); (case lxx18 => rfl); (case lc18 => exact HX6.out))
          | ((with_reducible refine storeRM (x := ?rx17) (y := ?ry17) (B := w.heap.size) (g := g0) (cap := nn) (n := nn) (i := k) (ms := mgs Ls ++ List.replicate (nn - k) zM) (m := zM) (msgM so nd (k : Int) bl x.c vt ⟨ra, rn, rc⟩ fl) ?rg17 ?ro17 ?rxx17 ?ryy17 ?rO17 ?rm17 ?rh17); (case rg17 => rfl); (case ro17 => rfl); (case rxx17 => rfl); (case ryy17 => rfl); (case rO17 => exact own_tch HO5.out HT6.out (fun k' hk' hs => by obtain rfl : g0 = k' := Option.some.inj hk'; have := HQ.out; omega)); (case rm17 => exact row_at0 HRW.out.len hlt); intro W7 hO7 hU7; have HO7 := hid hO7; have HT7 : Hid (Tch (fun k => k = g0) W6 W7) := hid hU7.tch; clear hO7 hU7)
          | fail)
         have HN5 : Hid (∀ k, k = w.heap.size → ∀ cur fz, w5.heap[k]? ≠ some (.cells cur 42 fz)) := hid (fun k hk => by subst hk; exact HX5.out.no)
         have HN6 : Hid (∀ k, k = g0 → ∀ cur fz, W6.heap[k]? ≠ some (.cells cur 42 fz)) := hid (fun k hk cur fz h => by subst hk; obtain ⟨_, cur', h2⟩ := own_no (own_tch HO5.out HT6.out (fun k' hk' hs => by have h1 : k = k' := Option.some.inj hk'; have h2 : k' = w.heap.size := hs; have := HQ.out; omega)) (k := k) rfl; rw [h2] at h; injection h with h; injection h with _ e; exact absurd e (by decide))
         have HS7 : Hid (SetD W7 (Sv.v ⟨ra, rn, rc⟩) vl) := hid ((HS5.out.tch HT6.out HN5.out).tch HT7.out HN6.out)
         go_roundw
         case rel => exact ⟨k + 1, Ls ++ [⟨msgM so nd (k : Int) bl x.c vt ⟨ra, rn, rc⟩ fl, vl, [], []⟩], (k : Int), ⟨ra, rn, rc⟩, by omega, by go_num, hid ((HB5.out.trans (HT6.out.below (fun k hk => Nat.le_of_eq (Eq.symm hk)) HB5.out.size)).trans (HT7.out.below (fun k hk => by have h1 := HQ.out; have h2 : k = g0 := hk; omega) (Nat.le_trans HB5.out.size HT6.out.size))), hid (HT7.out.ob HX6.out (fun h => by have := HQ.out; omega)), hid HS7.out.1, hid (by rw [← row_set (m := ⟨msgM so nd (k : Int) bl x.c vt ⟨ra, rn, rc⟩ fl, vl, [], []⟩) HRW.out.len hlt]; exact HO7.out), hid (((HRW5.out.tch HT6.out HN5.out).tch HT7.out HN6.out).next HS7.out HBL.out)⟩
         case measure => first | omega | (simp [RowKit.intOf]; omega)
       · have hlti : ¬ ((k : Int) < nn) := by omega
         have hkn : k = nn := by omega
         go_wp2_with fail
         go_ret
         exact ToAllP.all HRB.out.symm HNN.out (by have := HRW.out; rwa [hkn] at this) (by have := HO.out; rwa [hkn, Nat.sub_self, List.replicate_zero, List.append_nil] at this) HB.out
 · have hb0 : bl = x.bal := by rw [HBL.out, if_neg h7]
   go_upto_region 4 with fail
   obtain ⟨W3, hW3⟩ : ∃ z, z = we.setCell ⟨w.heap.size, 3, none⟩ (.int .i64 x.bal) := ⟨_, rfl⟩
   have HX3 : Hid (OM W3 w.heap.size (msgM so nd 0 bl x.c vt vp fl)) := hid (by rw [hW3, hb0]; exact OM.set (j := 3) HX2.out rfl)
   have HS3 : Hid (Below w.heap.size w W3) := hid (by rw [hW3]; exact setV_below HS2.out HS2.out.size (Nat.le_refl _))
   rw [← hW3]
   clear hW3 hb0 d0 d3 f3 e7 HX2 HS2
   have HX2 := HX3
   have HS2 := HS3
   clear HX3 HS3 h7
   have HSV := hid (HV.out.on HS2.out)
   rcases rb with _ | _
   · as_aux_lemma =>
      go_wp2_with (first
       | ((with_reducible refine loadM (x := ?lx19) (b := w.heap.size) (msgM so nd 0 bl x.c vt vp fl) ?lg19 ?lo19 ?lxx19 ?lc19 ?lh19); (case lg19 => rfl); (case lo19 => rfl); (case lxx19 => rfl); (case lc19 => exact HX2.out))
       | (go_at_call 28; refine (HCR.out _ HS2.out).mono ?_; rintro e w2 ⟨rfl, hB⟩; have HB2 : Hid (Below w.heap.size w w2) := hid (HS2.out.trans (hB.mono HS2.out.size)); have HX3 : Hid (OM w2 w.heap.size (msgM so nd 0 bl x.c vt vp fl)) := hid (heapB HX2.out hB (Array.getElem?_eq_some_iff.1 HX2.out).1); clear hB)
       | fail)
      go_ret
      exact ToAllP.none HRB.out.symm HB2.out
   · as_aux_lemma =>
      go_upto_region 6 with (first
       | ((with_reducible refine loadM (x := ?lx20) (b := w.heap.size) (msgM so nd 0 bl x.c vt vp fl) ?lg20 ?lo20 ?lxx20 ?lc20 ?lh20); (case lg20 => rfl); (case lo20 => rfl); (case lxx20 => rfl); (case lc20 => exact HX2.out))
       | (go_at_call 28; refine (HCR.out _ HS2.out).mono ?_; rintro e w2 ⟨rfl, hB⟩; have HB2 : Hid (Below w.heap.size w w2) := hid (HS2.out.trans (hB.mono HS2.out.size)); have HX3 : Hid (OM w2 w.heap.size (msgM so nd 0 bl x.c vt vp fl)) := hid (heapB HX2.out hB (Array.getElem?_eq_some_iff.1 HX2.out).1); clear hB)
       | fail)
      obtain ⟨k0, k1, k2⟩ := HLD.out _ HB2.out
      go_wp2_with (first
       | (at_make; refine wpList_make_full w2 rfl _ _ 37 rfl w.heap.size 48 i0 _ 20 Tryz.underlying37 HI.out HI0.out HI1.out _ _ _ _ nn rfl rfl rfl rfl HM1.out HM2.out HB2.out.size ?_; intro w3 hr hg; have HO3 : Hid (OwnM w3 w.heap.size (.slice (some ⟨w2.heap.size, 0, none⟩) nn nn) (List.replicate nn zM)) := hid (by have e : (madeCells (Value.agg zM.arr).cells (nn * 20)).toList = flatG Mg.list (List.replicate nn zM) := made_zero nn; rw [e] at hr; show World.ownsRow _ _ _ _ _ _ _; rw [List.length_replicate]; exact hr); have hb := belowNone hg; have HX4 : Hid (OM w3 w.heap.size (msgM so nd 0 bl x.c vt vp fl)) := hid (heapB HX3.out hb (Array.getElem?_eq_some_iff.1 HX3.out).1); have HB3 : Hid (Below w.heap.size w w3) := hid (HB2.out.trans (hb.mono HB2.out.size)); clear hr hg hb)
       | fail)
      have HQ : Hid (w.heap.size < w2.heap.size) := hid (Array.getElem?_eq_some_iff.1 HX3.out).1
      clear HX2 HS2 HX3 HSV
      obtain ⟨g0, hg0⟩ : ∃ z, z = w2.heap.size := ⟨_, rfl⟩
      rw [← hg0] at HO3 HQ ⊢
      clear hg0
      go_loopw [8, 37] (fun _ i wr => ∃ (k : Nat) (Ls : List Ms) (tt : Int) (r : Sv), k ≤ nn ∧ i = .int .i64 k ∧ Hid (Below w.heap.size w wr) ∧ Hid (OM wr w.heap.size (msgM so nd tt bl x.c vt r fl)) ∧ Hid (Sl wr r.v vl) ∧ Hid (OwnM wr w.heap.size (.slice (some ⟨g0, 0, none⟩) nn nn) (mgs Ls ++ List.replicate (nn - k) zM)) ∧ Hid (RowA nd x.bal x.c so vt vl fl wr Ls k)) (fun _ i _ => nn - (RowKit.intOf i).toNat)
      case atStart => exact ⟨0, [], 0, vp, Nat.zero_le _, rfl, HB3, HX4, hid (HV.out.on HB3.out), HO3, hid ⟨rfl, by simp⟩⟩
      case round =>
       obtain ⟨k, Ls, tt, r, hk, rfl, HB, HX, HSL, HO, HRW⟩ := hrel
       by_cases hlt : k < nn
       · have hlti : ((k : Int) < nn) := by omega
         go_wp2_with (first
          | ((with_reducible refine loadVl (x := ?vx21) (b := w.heap.size) (o := 11) vt r ?vg21 ?vo21 ?vxx21 ?vc21 ?_); (case vg21 => rfl); (case vo21 => rfl); (case vxx21 => rfl); (case vc21 => exact OM.vV (m := msgM so nd tt bl x.c vt r fl) HX.out))
          | (go_at_call 23; refine (cOwnL HSL.out (Nat.le_trans HVL.out (by decide))).mono ?_; rintro e w5 ⟨⟨ra, rn, rc⟩, rfl, hs, hB⟩; have HS5 := hid hs; have HX5 : Hid (OM w5 w.heap.size (msgM so nd tt bl x.c vt r fl)) := hid (heapB HX.out hB (Array.getElem?_eq_some_iff.1 HX.out).1); have HB5 : Hid (Below w.heap.size w w5) := hid (HB.out.trans (hB.mono HB.out.size)); have HO5 := hid (OwnG.on HO.out hB); have HRW5 := hid (HRW.out.tch (Tch.ofBelow (S := fun _ => False) hB) (fun _ h => h.elim)); have c2 : w5.cell? ⟨w.heap.size, 2, none⟩ = some (.int .i64 tt) := HX5.out.cell (m := msgM so nd tt bl x.c vt r fl) (j := 2) rfl; have f2 : w5.frozen? ⟨w.heap.size, 2, none⟩ = false := HX5.out.free 2; clear hs hB)
          | ((with_reducible refine storeMV (x := ?wx22) (y := ?wy22) (b := w.heap.size) (msgM so nd (k : Int) bl x.c vt r fl) vt ⟨ra, rn, rc⟩ ?wg22 ?wo22 ?wxx22 ?wyy22 ?wc22 ?wh22); (case wg22 => rfl); (case wo22 => rfl); (case wxx22 => rfl); (case wyy22 => rfl); (case wc22 => exact OM.set (j := 2) (v := .int .i64 (k : Int)) HX5.out rfl); intro W6 hO hU; have HX6 : Hid (OM W6 w.heap.size (msgM so nd (k : Int) bl x.c vt ⟨ra, rn, rc⟩ fl)) := hid hO; have HT6 : Hid (Tch (fun k => k = w.heap.size) w5 W6) := hid ((setV_tch w5 w.heap.size 2 _).trans hU.tch); clear hO hU)
          | ((with_reducible refine loadM (x := ?lx24) (b := w.heap.size) (msgM so nd (k : Int) bl x.c vt ⟨ra, rn, rc⟩ fl) ?lg24 ?lo24 ?lxx24 ?lc24 ?lh24); (case lg24 => rfl); (case lo24 => rfl); (case lxx24 => rfl); (case lc24 => exact HX6.out))
          | ((with_reducible refine storeRM (x := ?rx23) (y := ?ry23) (B := w.heap.size) (g := g0) (cap := nn) (n := nn) (i := k) (ms := mgs Ls ++ List.replicate (nn - k) zM) (m := zM) (msgM so nd (k : Int) bl x.c vt ⟨ra, rn, rc⟩ fl) ?rg23 ?ro23 ?rxx23 ?ryy23 ?rO23 ?rm23 ?rh23); (case rg23 => rfl); (case ro23 => rfl); (case rxx23 => rfl); (case ryy23 => rfl); (case rO23 => exact own_tch HO5.out HT6.out (fun k' hk' hs => by obtain rfl : g0 = k' := Option.some.inj hk'; have := HQ.out; omega)); (case rm23 => exact row_at0 HRW.out.len hlt); intro W7 hO7 hU7; have HO7 := hid hO7; have HT7 : Hid (Tch (fun k => k = g0) W6 W7) := hid hU7.tch; clear hO7 hU7)
          | fail)
         have HN5 : Hid (∀ k, k = w.heap.size → ∀ cur fz, w5.heap[k]? ≠ some (.cells cur 42 fz)) := hid (fun k hk => by subst hk; exact HX5.out.no)
         have HN6 : Hid (∀ k, k = g0 → ∀ cur fz, W6.heap[k]? ≠ some (.cells cur 42 fz)) := hid (fun k hk cur fz h => by subst hk; obtain ⟨_, cur', h2⟩ := own_no (own_tch HO5.out HT6.out (fun k' hk' hs => by have h1 : k = k' := Option.some.inj hk'; have h2 : k' = w.heap.size := hs; have := HQ.out; omega)) (k := k) rfl; rw [h2] at h; injection h with h; injection h with _ e; exact absurd e (by decide))
         have HS7 : Hid (SetD W7 (Sv.v ⟨ra, rn, rc⟩) vl) := hid ((HS5.out.tch HT6.out HN5.out).tch HT7.out HN6.out)
         go_roundw
         case rel => exact ⟨k + 1, Ls ++ [⟨msgM so nd (k : Int) bl x.c vt ⟨ra, rn, rc⟩ fl, vl, [], []⟩], (k : Int), ⟨ra, rn, rc⟩, by omega, by go_num, hid ((HB5.out.trans (HT6.out.below (fun k hk => Nat.le_of_eq (Eq.symm hk)) HB5.out.size)).trans (HT7.out.below (fun k hk => by have h1 := HQ.out; have h2 : k = g0 := hk; omega) (Nat.le_trans HB5.out.size HT6.out.size))), hid (HT7.out.ob HX6.out (fun h => by have := HQ.out; omega)), hid HS7.out.1, hid (by rw [← row_set (m := ⟨msgM so nd (k : Int) bl x.c vt ⟨ra, rn, rc⟩ fl, vl, [], []⟩) HRW.out.len hlt]; exact HO7.out), hid (((HRW5.out.tch HT6.out HN5.out).tch HT7.out HN6.out).next HS7.out HBL.out)⟩
         case measure => first | omega | (simp [RowKit.intOf]; omega)
       · have hlti : ¬ ((k : Int) < nn) := by omega
         have hkn : k = nn := by omega
         go_wp2_with fail
         go_ret
         exact ToAllP.all HRB.out.symm HNN.out (by have := HRW.out; rwa [hkn] at this) (by have := HO.out; rwa [hkn, Nat.sub_self, List.replicate_zero, List.append_nil] at this) HB.out
end Go.Proofs.YtplodoindppleaaGreat
