import Derived.Test.YtlehcaacfgocaaaGreatG15
namespace Go.Proofs.YtlehcaacfgocaaaGreat
set_option linter.unusedVariables false
open Go.RowKit
open Go.Lib (hid)
open Go.Sort
def SlT (B : Nat) (w : World) (v : Value) (cs : List C7) : Prop := Sl w v cs ∧ ∀ ad n c, v = .slice (some ad) n c → 0 < cs.length → B ≤ ad.block ∧ ∃ cur fz, w.heap[ad.block]? = some (.cells cur 45 fz)
theorem SlT.on {B : Nat} {w w' : World} {v : Value} {cs : List C7} (h : SlT B w v cs) (hb : Below w.heap.size w w') : SlT B w' v cs := ⟨h.1.on hb, fun ad n c e h0 => by
  obtain ⟨h1, cur, fz, h2⟩ := h.2 ad n c e h0
  exact ⟨h1, cur, fz, heapB h2 hb (Array.getElem?_eq_some_iff.1 h2).1⟩⟩
theorem SlT.mono {B B' : Nat} {w : World} {v : Value} {cs : List C7} (h : SlT B w v cs) (hB : B' ≤ B) : SlT B' w v cs := ⟨h.1, fun ad n c e h0 => ⟨Nat.le_trans hB (h.2 ad n c e h0).1, (h.2 ad n c e h0).2⟩⟩
theorem Own.slT {B : Nat} {w : World} {v : Value} {cs : List C7} (h : Own w B v cs) : SlT B w v cs := ⟨h.sl, fun ad n c e h0 => by
  rcases h.2 with ⟨rfl, h1⟩ | ⟨g, cap, cur, rfl, hb, hg, _⟩
  · cases e
  · injection e with e1 e2 e3
    cases e1
    exact ⟨hb, cur, (0, 0), hg⟩⟩
theorem typ_sortK {w : World} {g n : Nat} {cur : Array Value} {T : TypeId} {fr : Nat × Nat} {d : Array C7} {os : Array Obj} (hg : w.heap[g]? = some (.cells cur T fr)) :
    (sortWorldK C7.cells 7 w g 0 n d os).heap[g]? = some (.cells (putCells id 0 (flatK C7.cells 7 d) cur) T fr) := by
  have h1 : g < w.heap.size := (Array.getElem?_eq_some_iff.1 hg).1
  unfold sortWorldK putRowK
  rw [heap_grow_old _ _ (by simpa [putRow, mapBlock, Sort.ahead] using h1)]
  simp [putRow, mapBlock, Sort.ahead, Array.getElem?_modify, hg, onCells]
set_option maxHeartbeats 1000000 in
set_option maxRecDepth 100000 in
theorem cSortCT {v : Value} {cs : List C7} {w : World} {B : Nat} (h : Own w B v cs) (hl : cs.length ≤ 100000) : Calls Tryz.prog 185 #[v, .func (.func 52) #[] #[]] w fun e w' => e = .returned (.tuple #[]) ∧ ∃ s, SlT B w' v s ∧ s.Perm cs ∧ Sorted7 s ∧ Below B w w' := by
  rcases h.2 with ⟨rfl, h0⟩ | ⟨g, cap, cur, rfl, hb, hg, hn, hm, hs, ht⟩
  · obtain rfl : cs = [] := List.length_eq_zero_iff.1 h0
    have hS := AnyF.slices_SortFunc_none Tryz.sortC none 0 (.func (.func 52) #[] #[]) w
    change Calls Tryz.prog 185 _ _ _ at hS
    refine hS.mono ?_
    rintro e w' ⟨rfl, rfl⟩
    exact ⟨rfl, [], ⟨h.sl, fun ad n c e h0 => absurd h0 (by simp)⟩, List.Perm.refl _, List.Pairwise.nil, Below.refl _ _⟩
  · have eg : ∀ args w, (callFunc 52 args).run Tryz.prog w = .ok (.enter 52 args) w := enters_of Tryz.func52 (by kernel_rfl) rfl
    have hlt := h.lt g rfl
    have hS := AnyQ.slices_SortFunc Tryz.sortC 7 Tryz.isAgg45 Tryz.sizeOf45 C7.cells (fun _ => rfl) (fun x v hv => by simp at hv; rcases hv with rfl | rfl | rfl | rfl | rfl | rfl | rfl <;> rfl) byI swoI 52 #[] g 0 cap cs.toArray w eg (cmpLays g 0 _ w) h.holds hlt.2 (by simp; omega)
    change Calls Tryz.prog 185 #[.slice (some ⟨g, 0, none⟩) cs.length cap, .func (.func 52) #[] #[]] w _ at hS
    refine hS.mono ?_
    rintro e w' ⟨rfl, d', n, os, hp, hs, rfl⟩
    have hsz : d'.size = cs.length := by have := hp.1; simpa using this
    have hlen : d'.toList.length = cs.length := by simpa using hsz
    have hg2 : Below B w (sortWorldK C7.cells 7 w g 0 n d' os) := (Below.refl B w).grown grownBy_sortK (by omega) (fun k hk => by cases hk; exact hlt.1)
    refine ⟨rfl, d'.toList, ⟨⟨g, 0, cap, some ⟨g, 0, none⟩, by rw [hlen], (fun e => by cases e), fun _ => rfl, ?_, fun _ => ?_⟩, fun ad n' c' e h0 => ?_⟩, by have := perm_of hp; simpa using this, sorted_of (by rw [hp.1]; exact hs), hg2⟩
    · exact cms_of_holds (holdsK_sortWorldK_c C7.cells 7 w g 0 cs.toArray d' n os h.holds hlt.2 (by rw [hsz]; simp))
    · have := (grownBy_sortK (w := w) (g := g) (m := n) (d := d') (os := os)).size
      omega
    · injection e with e1 e2 e3
      cases e1
      exact ⟨hlt.1, _, (0, 0), typ_sortK hg⟩
set_option maxHeartbeats 8000000 in
set_option maxRecDepth 100000 in
theorem cTouchingO {w : World} {x b b2 n : Nat} {nd c0 : Int} {xs : List En} {ids : List Int} (h : Ix w x b b2 n nd c0 xs ids) (hn : n ≤ 20000) (c : C7) {g : FuncId} {lb : Array Value} {P : En → Bool} (eg : ∀ args W, (callFunc g args).run Tryz.prog W = .ok (.enter g args) W)
    (hP : ∀ W (y : En), lookG En.id xs y.id = some y → Below w.heap.size w W → Calls Tryz.prog g (#[.agg y.e.arr] ++ lb) W fun e w' => e = .returned (.bool (P y)) ∧ Below W.heap.size W w') :
    Calls Tryz.prog 151 #[ptr x, c.v, .func (.func g) #[] lb] w fun e w' => ∃ v, e = .returned v ∧ SlT w.heap.size w' v (touchL xs c P) ∧ Below w.heap.size w w' := by
  obtain ⟨i0, hi, hz0, hz1, hz2⟩ := info_parts Tryz.infoC
  have HW : Hid (Below w.heap.size w (w.alloc (.cells #[.int .i64 c.i, .int .i64 c.k, .int .i64 c.s, .int .i64 c.t, .int .i64 c.d, .int .i64 c.p, .int .i64 c.q] 45))) := hid ((Below.refl _ w).alloc (Nat.le_refl _) _)
  have HCB : Hid ((w.alloc (.cells #[.int .i64 c.i, .int .i64 c.k, .int .i64 c.s, .int .i64 c.t, .int .i64 c.d, .int .i64 c.p, .int .i64 c.q] 45)).heap[w.heap.size]? = some (.cells #[.int .i64 c.i, .int .i64 c.k, .int .i64 c.s, .int .i64 c.t, .int .i64 c.d, .int .i64 c.p, .int .i64 c.q] 45 (0, 0))) := hid (heap_alloc_new w _)
  have HP := hid hP
  have HJ := hid h
  clear h hP
  go_enter Tryz.func151, Tryz.ntmps151
  go_wp2_with fail
  generalize w.alloc (.cells #[.int .i64 c.i, .int .i64 c.k, .int .i64 c.s, .int .i64 c.t, .int .i64 c.d, .int .i64 c.p, .int .i64 c.q] 45) = W0 at HW HCB ⊢
  have HJ0 := hid (HJ.out.on HW.out)
  have hM := cMade HJ0.out
  obtain ⟨k0, k1, k2, k3, f1⟩ := HJ0.out.cells
  obtain ⟨D, hD, hS⟩ := HJ0.out.mp
  have HS := hid hS
  have HSZ := hid hD.size_le
  go_wp2_with (first
    | (go_at_call 48; refine hM.mono ?_; rintro e w' ⟨rfl, rfl⟩)
    | (at_range; refine wpList_range_own _ rfl _ 83 rfl 3 67 (Maps.int_keyed Tryz.underlying3) Tryz.underlying83 RE b n _ rfl hD ?_; intro w0 hrg0 hg0 hs0)
    | fail)
  go_frame
  have HCC := hid (fun (W : World) (hW : Below W0.heap.size W0 W) => heapB HCB.out hW (Array.getElem?_eq_some_iff.1 HCB.out).1)
  have HRG := hid hrg0
  have HSZ0 := hid (show w.heap.size < W0.heap.size from (Array.getElem?_eq_some_iff.1 HCB.out).1)
  have HB0 : Hid (Below W0.heap.size W0 w0) := hid ((Below.refl _ W0).grown hg0 (Nat.le_refl _) (fun k e => by cases e))
  clear hD hS hrg0 hg0 hs0 hM k0 k1 k2 k3 f1 HCB HJ HJ0
  go_loopw [7] (fun u wr => ∃ (left : Lit → Bool) (cnt : Nat) (ys : List En), wr.ranges Tryz.prog 3 RE b W0.heap.size n D left cnt ∧ ys.length + cnt ≤ Maps.size D ∧ CollectedI D left (ys.map En.id) ∧ (∀ y ∈ ys, lookG En.id xs y.id = some y) ∧ Own wr W0.heap.size u ((ys.filter (sel c P)).map fun y => y.e.c) ∧ Below W0.heap.size W0 wr) (fun _ wr => wr.rangeLeft b W0.heap.size)
  case atStart => exact ⟨_, _, [], HRG.out, by simp, CollectedI.start D, by simp, Own.nil _ _, HB0.out⟩
  case round =>
    obtain ⟨left, cnt, ys, hrg, hcs, hC, hV, hown, hB⟩ := hrel
    have HO := hid hown
    have HB := hid hB
    have HCS := hid hcs
    have HV := hid hV
    have HCO := hid hC
    have HR0 := hid hrg
    have HLE : Hid (((ys.filter (sel c P)).map fun y => y.e.c).length ≤ 20000) := hid (by have := HCS.out; have := HSZ.out; have := List.length_filter_le (sel c P) ys; rw [List.length_map]; omega)
    obtain ⟨g0, cap0, n0, rfl, -⟩ := hown.asSlice
    clear hown hB hcs hV hC HRG HB0
    go_wp2_with (first
      | (at_next; refine wpList_next_ranges _ rfl _ rfl 3 (Maps.int_keyed Tryz.underlying3) RE encZ (fun e : Ev => Value.agg e.arr) (fun key kl hk => by obtain ⟨x, hx, _⟩ := Maps.keyOf_i64 Tryz.underlying3 hk; exact ⟨x, hx⟩) (fun v y hv => by obtain ⟨e, rfl, _⟩ := RE_inv hv; exact ⟨e, rfl⟩) b W0.heap.size n _ _ _ rfl hrg ?_ ?_)
      | fail)
    · intro hc0 hl0
      have HA : Hid (AllEn xs ys) := hid (allEn_of HS.out HCO.out hl0 HV.out)
      have hSo := cSortCT HO.out (by have := HLE.out; omega)
      clear hrg hc0 hl0
      go_wp2_with fail
      go_at_call 185
      refine hSo.mono ?_
      rintro e w5 ⟨rfl, s, hs, hp, hu, hB5⟩
      have HF := hid (And.intro hs (And.intro hp hu))
      have HB5 := hid hB5
      clear hs hp hu hB5 hSo
      go_wp2_with fail
      go_ret
      exact ⟨_, rfl, by rw [← touch_sorted HA.out HF.out.2.1 HF.out.2.2]; exact HF.out.1.mono (by have := HSZ0.out; omega), HW.out.trans ((HB.out.trans HB5.out).mono (by have := HSZ0.out; omega))⟩
    · intro kx ev kl yd yp w2 cnt2 hkey hlk hv hat hrg2 hlt hg2 hs2 hen
      obtain ⟨x', ex, rfl, _⟩ := Maps.keyOf_i64 Tryz.underlying3 hkey
      obtain rfl : kx = x' := encZ_inj ex
      rw [RE_mk] at hv
      obtain rfl : yd = .held (.agg ev.arr) := by cases hv; rfl
      obtain ⟨y, hy, rfl, hci⟩ := says_at HS.out hat
      obtain rfl : y.id = kx := hci
      have hT2 : Tch (fun k => k = W0.heap.size) wr w2 := Tch.ofGrown hg2 fun k e => (Option.some.inj e).symm
      have HO2 : Hid (Own w2 W0.heap.size (.slice g0 n0 cap0) ((ys.filter (sel c P)).map fun y => y.e.c)) := hid (own_tch HO.out hT2 fun k hk e => by
        subst e
        obtain ⟨o, ho1, ho2⟩ := hrg.iter_walk
        exact own_off HO.out ho1 (fun cur e => by subst e; cases ho2) hk)
      have HB2 : Hid (Below W0.heap.size W0 w2) := hid (HB.out.grown hg2 HB.out.size (fun k e => by cases e; exact Nat.le_refl _))
      have HR2 := hid hrg2
      have HLT := hid hlt
      have HC2 := hid (show CollectedI D (fun z => left z && !z.sameKey (key y.id)) ((ys ++ [y]).map En.id) by have := HCO.out.step hlk hat; simpa using this)
      have HV2 := hid (show ∀ z ∈ ys ++ [y], lookG En.id xs z.id = some z from fun z hz => (List.mem_append.1 hz).elim (HV.out z) (fun h => by simp at h; subst h; exact hy))
      have HY := hid hy
      clear hs2 hrg2 hlt hv hat hkey hlk hg2 hT2 hy ex hrg HO HB HCO HV
      obtain ⟨tb, htb⟩ : ∃ tb, tb = touchB y.e.c c := ⟨_, rfl⟩
      obtain ⟨pb, hpb⟩ : ∃ pb, pb = P y := ⟨_, rfl⟩
      have HSEL : Hid (sel c P y = (tb && pb)) := hid (by rw [htb, hpb])
      have HCF := hid (fun W => cConflict y.e.c c W)
      have HPC := hid (fun W hW => HP.out W y HY.out hW)
      rw [← htb] at HCF
      rw [← hpb] at HPC
      clear htb hpb
      rcases tb with _ | _
      · go_wp2_with (first
          | ((with_reducible refine storeC (x := ?sx1) (y := ?sy1) (b := w2.heap.size) (T := 67) y.e ?sg1 ?so1 ?sxx1 ?syy1 ?sc1 ?_); (case sg1 => rfl); (case so1 => rfl); (case sxx1 => rfl); (case syy1 => rfl); (case sc1 => exact zeroRoom w2); intro W4 hO4 hU4
             have hb4 : Below w2.heap.size w2 W4 := ((Below.refl _ w2).alloc (Nat.le_refl _) _).trans (hU4.below _ (Nat.le_refl _))
             have HX4 := hid hO4
             have HO4 := hid (own_sl_below HO2.out hb4)
             have HB4 := hid (HB2.out.trans (hb4.mono HB2.out.size))
             have HR4 := hid (HR2.out.kept (grownBelow hb4 none) (by simp) (by simp))
             have hcc := HCC.out W4 HB4.out
             have e0 := hO4.cell (j := 0) (v := .int .i64 y.e.c.i) rfl; have e1 := hO4.cell (j := 1) (v := .int .i64 y.e.c.k) rfl; have e2 := hO4.cell (j := 2) (v := .int .i64 y.e.c.s) rfl; have e3 := hO4.cell (j := 3) (v := .int .i64 y.e.c.t) rfl; have e4 := hO4.cell (j := 4) (v := .int .i64 y.e.c.d) rfl; have e5 := hO4.cell (j := 5) (v := .int .i64 y.e.c.p) rfl; have e6 := hO4.cell (j := 6) (v := .int .i64 y.e.c.q) rfl
             have c0 : W4.cell? ⟨w.heap.size, 0, none⟩ = some (.int .i64 c.i) := (cellAt' hcc 0).trans rfl; have c1 : W4.cell? ⟨w.heap.size, 1, none⟩ = some (.int .i64 c.k) := (cellAt' hcc 1).trans rfl; have c2 : W4.cell? ⟨w.heap.size, 2, none⟩ = some (.int .i64 c.s) := (cellAt' hcc 2).trans rfl; have c3 : W4.cell? ⟨w.heap.size, 3, none⟩ = some (.int .i64 c.t) := (cellAt' hcc 3).trans rfl; have c4 : W4.cell? ⟨w.heap.size, 4, none⟩ = some (.int .i64 c.d) := (cellAt' hcc 4).trans rfl; have c5 : W4.cell? ⟨w.heap.size, 5, none⟩ = some (.int .i64 c.p) := (cellAt' hcc 5).trans rfl; have c6 : W4.cell? ⟨w.heap.size, 6, none⟩ = some (.int .i64 c.q) := (cellAt' hcc 6).trans rfl
             clear hU4 hb4 hcc hO4)
          | (go_at_call 184; refine (HCF.out W4).mono ?_; rintro q W5 ⟨rfl, hb5⟩
             have HX5 : Hid (Ob W5 w2.heap.size 67 y.e) := hid (heapB HX4.out hb5 (Array.getElem?_eq_some_iff.1 HX4.out).1)
             have HO5 := hid (own_sl_below HO4.out hb5)
             have HB5 := hid (HB4.out.trans (hb5.mono HB4.out.size))
             have HR5 := hid (HR4.out.kept (grownBelow hb5 none) (by simp) (by simp))
             have hpc := HPC.out W5 (HW.out.trans (HB5.out.mono (by have := HSZ0.out; omega)))
             clear hb5)
          | fail)
        go_roundw
        case rel => exact ⟨_, cnt2, ys ++ [y], HR5.out, by have := HCS.out; have := HLT.out; simp; omega, HC2.out, HV2.out, by have := HO5.out; rw [List.filter_append, List.filter_cons, HSEL.out]; simpa using this, HB5.out⟩
        case measure => rw [HR5.out.left_eq, HR0.out.left_eq]; exact HLT.out
      · rcases pb with _ | _
        · go_wp2_with (first
            | ((with_reducible refine storeC (x := ?sx1) (y := ?sy1) (b := w2.heap.size) (T := 67) y.e ?sg1 ?so1 ?sxx1 ?syy1 ?sc1 ?_); (case sg1 => rfl); (case so1 => rfl); (case sxx1 => rfl); (case syy1 => rfl); (case sc1 => exact zeroRoom w2); intro W4 hO4 hU4
               have hb4 : Below w2.heap.size w2 W4 := ((Below.refl _ w2).alloc (Nat.le_refl _) _).trans (hU4.below _ (Nat.le_refl _))
               have HX4 := hid hO4
               have HO4 := hid (own_sl_below HO2.out hb4)
               have HB4 := hid (HB2.out.trans (hb4.mono HB2.out.size))
               have HR4 := hid (HR2.out.kept (grownBelow hb4 none) (by simp) (by simp))
               have hcc := HCC.out W4 HB4.out
               have e0 := hO4.cell (j := 0) (v := .int .i64 y.e.c.i) rfl; have e1 := hO4.cell (j := 1) (v := .int .i64 y.e.c.k) rfl; have e2 := hO4.cell (j := 2) (v := .int .i64 y.e.c.s) rfl; have e3 := hO4.cell (j := 3) (v := .int .i64 y.e.c.t) rfl; have e4 := hO4.cell (j := 4) (v := .int .i64 y.e.c.d) rfl; have e5 := hO4.cell (j := 5) (v := .int .i64 y.e.c.p) rfl; have e6 := hO4.cell (j := 6) (v := .int .i64 y.e.c.q) rfl
               have c0 : W4.cell? ⟨w.heap.size, 0, none⟩ = some (.int .i64 c.i) := (cellAt' hcc 0).trans rfl; have c1 : W4.cell? ⟨w.heap.size, 1, none⟩ = some (.int .i64 c.k) := (cellAt' hcc 1).trans rfl; have c2 : W4.cell? ⟨w.heap.size, 2, none⟩ = some (.int .i64 c.s) := (cellAt' hcc 2).trans rfl; have c3 : W4.cell? ⟨w.heap.size, 3, none⟩ = some (.int .i64 c.t) := (cellAt' hcc 3).trans rfl; have c4 : W4.cell? ⟨w.heap.size, 4, none⟩ = some (.int .i64 c.d) := (cellAt' hcc 4).trans rfl; have c5 : W4.cell? ⟨w.heap.size, 5, none⟩ = some (.int .i64 c.p) := (cellAt' hcc 5).trans rfl; have c6 : W4.cell? ⟨w.heap.size, 6, none⟩ = some (.int .i64 c.q) := (cellAt' hcc 6).trans rfl
               clear hU4 hb4 hcc hO4)
            | (go_at_call 184; refine (HCF.out W4).mono ?_; rintro q W5 ⟨rfl, hb5⟩
               have HX5 : Hid (Ob W5 w2.heap.size 67 y.e) := hid (heapB HX4.out hb5 (Array.getElem?_eq_some_iff.1 HX4.out).1)
               have HO5 := hid (own_sl_below HO4.out hb5)
               have HB5 := hid (HB4.out.trans (hb5.mono HB4.out.size))
               have HR5 := hid (HR4.out.kept (grownBelow hb5 none) (by simp) (by simp))
               have hpc := HPC.out W5 (HW.out.trans (HB5.out.mono (by have := HSZ0.out; omega)))
               clear hb5)
            | ((with_reducible refine loadGC (x := ?cx2) (b := w2.heap.size) (T := 67) y.e ?cg2 ?co2 ?cxx2 ?cc2 ?_); (case cg2 => rfl); (case co2 => rfl); (case cxx2 => rfl); (case cc2 => exact HX5.out))
            | (go_at_fn g; refine hpc.mono ?_; rintro q W6 ⟨rfl, hb6⟩
               have HX6 : Hid (Ob W6 w2.heap.size 67 y.e) := hid (heapB HX5.out hb6 (Array.getElem?_eq_some_iff.1 HX5.out).1)
               have HO6 := hid (own_sl_below HO5.out hb6)
               have HB6 := hid (HB5.out.trans (hb6.mono HB5.out.size))
               have HR6 := hid (HR5.out.kept (grownBelow hb6 none) (by simp) (by simp))
               clear hb6)
            | fail)
          go_roundw
          case rel => exact ⟨_, cnt2, ys ++ [y], HR6.out, by have := HCS.out; have := HLT.out; simp; omega, HC2.out, HV2.out, by have := HO6.out; rw [List.filter_append, List.filter_cons, HSEL.out]; simpa using this, HB6.out⟩
          case measure => rw [HR6.out.left_eq, HR0.out.left_eq]; exact HLT.out
        · go_wp2_with (first
            | ((with_reducible refine storeC (x := ?sx1) (y := ?sy1) (b := w2.heap.size) (T := 67) y.e ?sg1 ?so1 ?sxx1 ?syy1 ?sc1 ?_); (case sg1 => rfl); (case so1 => rfl); (case sxx1 => rfl); (case syy1 => rfl); (case sc1 => exact zeroRoom w2); intro W4 hO4 hU4
               have hb4 : Below w2.heap.size w2 W4 := ((Below.refl _ w2).alloc (Nat.le_refl _) _).trans (hU4.below _ (Nat.le_refl _))
               have HX4 := hid hO4
               have HO4 := hid (own_sl_below HO2.out hb4)
               have HB4 := hid (HB2.out.trans (hb4.mono HB2.out.size))
               have HR4 := hid (HR2.out.kept (grownBelow hb4 none) (by simp) (by simp))
               have hcc := HCC.out W4 HB4.out
               have e0 := hO4.cell (j := 0) (v := .int .i64 y.e.c.i) rfl; have e1 := hO4.cell (j := 1) (v := .int .i64 y.e.c.k) rfl; have e2 := hO4.cell (j := 2) (v := .int .i64 y.e.c.s) rfl; have e3 := hO4.cell (j := 3) (v := .int .i64 y.e.c.t) rfl; have e4 := hO4.cell (j := 4) (v := .int .i64 y.e.c.d) rfl; have e5 := hO4.cell (j := 5) (v := .int .i64 y.e.c.p) rfl; have e6 := hO4.cell (j := 6) (v := .int .i64 y.e.c.q) rfl
               have c0 : W4.cell? ⟨w.heap.size, 0, none⟩ = some (.int .i64 c.i) := (cellAt' hcc 0).trans rfl; have c1 : W4.cell? ⟨w.heap.size, 1, none⟩ = some (.int .i64 c.k) := (cellAt' hcc 1).trans rfl; have c2 : W4.cell? ⟨w.heap.size, 2, none⟩ = some (.int .i64 c.s) := (cellAt' hcc 2).trans rfl; have c3 : W4.cell? ⟨w.heap.size, 3, none⟩ = some (.int .i64 c.t) := (cellAt' hcc 3).trans rfl; have c4 : W4.cell? ⟨w.heap.size, 4, none⟩ = some (.int .i64 c.d) := (cellAt' hcc 4).trans rfl; have c5 : W4.cell? ⟨w.heap.size, 5, none⟩ = some (.int .i64 c.p) := (cellAt' hcc 5).trans rfl; have c6 : W4.cell? ⟨w.heap.size, 6, none⟩ = some (.int .i64 c.q) := (cellAt' hcc 6).trans rfl
               clear hU4 hb4 hcc hO4)
            | (go_at_call 184; refine (HCF.out W4).mono ?_; rintro q W5 ⟨rfl, hb5⟩
               have HX5 : Hid (Ob W5 w2.heap.size 67 y.e) := hid (heapB HX4.out hb5 (Array.getElem?_eq_some_iff.1 HX4.out).1)
               have HO5 := hid (own_sl_below HO4.out hb5)
               have HB5 := hid (HB4.out.trans (hb5.mono HB4.out.size))
               have HR5 := hid (HR4.out.kept (grownBelow hb5 none) (by simp) (by simp))
               have hpc := HPC.out W5 (HW.out.trans (HB5.out.mono (by have := HSZ0.out; omega)))
               clear hb5)
            | ((with_reducible refine loadGC (x := ?cx2) (b := w2.heap.size) (T := 67) y.e ?cg2 ?co2 ?cxx2 ?cc2 ?_); (case cg2 => rfl); (case co2 => rfl); (case cxx2 => rfl); (case cc2 => exact HX5.out))
            | (go_at_fn g; refine hpc.mono ?_; rintro q W6 ⟨rfl, hb6⟩
               have HX6 : Hid (Ob W6 w2.heap.size 67 y.e) := hid (heapB HX5.out hb6 (Array.getElem?_eq_some_iff.1 HX5.out).1)
               have HO6 := hid (own_sl_below HO5.out hb6)
               have HB6 := hid (HB5.out.trans (hb6.mono HB5.out.size))
               have HR6 := hid (HR5.out.kept (grownBelow hb6 none) (by simp) (by simp))
               have f0 := HX6.out.cell (j := 0) (v := .int .i64 y.e.c.i) rfl; have f1 := HX6.out.cell (j := 1) (v := .int .i64 y.e.c.k) rfl; have f2 := HX6.out.cell (j := 2) (v := .int .i64 y.e.c.s) rfl; have f3 := HX6.out.cell (j := 3) (v := .int .i64 y.e.c.t) rfl; have f4 := HX6.out.cell (j := 4) (v := .int .i64 y.e.c.d) rfl; have f5 := HX6.out.cell (j := 5) (v := .int .i64 y.e.c.p) rfl; have f6 := HX6.out.cell (j := 6) (v := .int .i64 y.e.c.q) rfl
               clear hb6)
            | (at_builtin; refine wpList_append_own _ rfl _ _ 46 rfl W0.heap.size 45 i0 _ 7 56 Tryz.underlying46 hi hz0 hz1 hz2 rfl (by decide) _ _ _ rfl (HO6.out.alloc _) ⟨W6.heap.size, 0, none⟩ 1 1 y.e.c.cells rfl rfl ?c1 ?c2 ?c3 ?c4 ?c5 ?_)
            | fail)
          case c1 => exact new_cell rfl
          case c2 => exact cells_one y.e.c
          case c3 => have := HLE.out; unfold maxLen; omega
          case c4 => have := HLE.out; omega
          case c5 => have := HB6.out.size; simp; omega
          intro v' w7 hown' hgrow _
          have R := Own.grows (HB6.out.alloc HB6.out.size _) (by have := HB6.out.size; simp; omega) (fun k hk => (HO6.out.lt k hk).1) (cs := (ys.filter (sel c P)).map fun y => y.e.c) (by rw [List.length_map]; exact hown') hgrow
          have HR7 := hid (ranges_apart (HR6.out.alloc _) (HO6.out.alloc _) hgrow)
          have HQ := hid R
          clear hown' hgrow R
          go_wp2_with fail
          go_roundw
          case rel => exact ⟨_, cnt2, ys ++ [y], HR7.out, by have := HCS.out; have := HLT.out; simp; omega, HC2.out, HV2.out, by have := HQ.out.1; rw [List.filter_append, List.filter_cons, HSEL.out]; simpa using this, HQ.out.2⟩
          case measure => rw [HR7.out.left_eq, HR0.out.left_eq]; exact HLT.out
set_option maxHeartbeats 2000000 in
set_option maxRecDepth 100000 in
theorem cPredO {w : World} {x b b2 n : Nat} {nd c0 : Int} {xs : List En} {ids : List Int} (h : Ix w x b b2 n nd c0 xs ids) (hn : n ≤ 20000) (hlx : xs.length ≤ 20000) (hA : AllAt w xs) (hs : ∀ y ∈ xs, y.short 1024) (c : C7) (t : Int) : Calls Tryz.prog 118 #[ptr x, c.v, .int .i64 t] w fun e w' => ∃ v, e = .returned v ∧ SlT w.heap.size w' v (touchL xs c (fun y => aheadE y.e t)) ∧ Below w.heap.size w w' := by
  have HW : Hid (Below w.heap.size w ((w.alloc (.cells #[.int .i64 c.i, .int .i64 c.k, .int .i64 c.s, .int .i64 c.t, .int .i64 c.d, .int .i64 c.p, .int .i64 c.q] 45)).alloc (.cells #[.int .i64 t] 3))) := hid (laid2_b w (.cells #[.int .i64 c.i, .int .i64 c.k, .int .i64 c.s, .int .i64 c.t, .int .i64 c.d, .int .i64 c.p, .int .i64 c.q] 45) (.cells #[.int .i64 t] 3))
  have HB0 : Hid (((w.alloc (.cells #[.int .i64 c.i, .int .i64 c.k, .int .i64 c.s, .int .i64 c.t, .int .i64 c.d, .int .i64 c.p, .int .i64 c.q] 45)).alloc (.cells #[.int .i64 t] 3)).heap[w.heap.size]? = some (.cells #[.int .i64 c.i, .int .i64 c.k, .int .i64 c.s, .int .i64 c.t, .int .i64 c.d, .int .i64 c.p, .int .i64 c.q] 45)) := hid (laid2_0 w (.cells #[.int .i64 c.i, .int .i64 c.k, .int .i64 c.s, .int .i64 c.t, .int .i64 c.d, .int .i64 c.p, .int .i64 c.q] 45) (.cells #[.int .i64 t] 3))
  have HB1 : Hid (((w.alloc (.cells #[.int .i64 c.i, .int .i64 c.k, .int .i64 c.s, .int .i64 c.t, .int .i64 c.d, .int .i64 c.p, .int .i64 c.q] 45)).alloc (.cells #[.int .i64 t] 3)).heap[w.heap.size + 1]? = some (.cells #[.int .i64 t] 3)) := hid (laid2_1 w (.cells #[.int .i64 c.i, .int .i64 c.k, .int .i64 c.s, .int .i64 c.t, .int .i64 c.d, .int .i64 c.p, .int .i64 c.q] 45) (.cells #[.int .i64 t] 3))
  have HJ := hid (h.on HW.out)
  have HA := hid (fun y (hy : y ∈ xs) => (hA y hy).on HW.out)
  have hsz : ((w.alloc (.cells #[.int .i64 c.i, .int .i64 c.k, .int .i64 c.s, .int .i64 c.t, .int .i64 c.d, .int .i64 c.p, .int .i64 c.q] 45)).alloc (.cells #[.int .i64 t] 3)).heap.size = w.heap.size + 2 := by simp
  have HSZ := hid hsz
  have hT := cTouchingO (lb := #[ptr (w.heap.size + 1)]) (P := fun y => aheadE y.e t) HJ.out hn c (enters_of Tryz.func152 (by kernel_rfl) rfl) fun W y hy hW => by
    exact cPred1 y.e (capOn (v := _) ((cellAt' HB1.out 0).trans rfl) hW (by have := HSZ.out; omega)) (by have := hW.size; have := HSZ.out; omega)
  have HT := hid hT
  have d0 := (cellAt' HB0.out 0).trans (show _ = some (Value.int .i64 c.i) from rfl)
  have d1 := (cellAt' HB0.out 1).trans (show _ = some (Value.int .i64 c.k) from rfl)
  have d2 := (cellAt' HB0.out 2).trans (show _ = some (Value.int .i64 c.s) from rfl)
  have d3 := (cellAt' HB0.out 3).trans (show _ = some (Value.int .i64 c.t) from rfl)
  have d4 := (cellAt' HB0.out 4).trans (show _ = some (Value.int .i64 c.d) from rfl)
  have d5 := (cellAt' HB0.out 5).trans (show _ = some (Value.int .i64 c.p) from rfl)
  have d6 := (cellAt' HB0.out 6).trans (show _ = some (Value.int .i64 c.q) from rfl)
  clear h hA hsz hT
  go_enter Tryz.func118, Tryz.ntmps118
  go_wp2_with fail
  go_at_call 151
  refine HT.out.mono ?_
  rintro e w1 ⟨v, rfl, hv, hB⟩
  have HV := hid hv
  have HB := hid (HW.out.trans (hB.mono (by have := HSZ.out; omega)))
  clear hv hB
  go_wp2_with fail
  go_ret
  exact ⟨v, rfl, HV.out.mono (by have := HSZ.out; omega), HB.out⟩
end Go.Proofs.YtlehcaacfgocaaaGreat
