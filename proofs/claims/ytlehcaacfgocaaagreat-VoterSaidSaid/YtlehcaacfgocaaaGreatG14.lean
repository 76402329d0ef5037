import Derived.Test.YtlehcaacfgocaaaGreatG07
import Derived.Test.YtlehcaacfgocaaaGreatG12
import Derived.Test.YtlehcaacfgocaaaGreatQPrgZm
import Derived.Test.YtlehcaacfgocaaaGreatG02
namespace Go.Proofs.YtlehcaacfgocaaaGreat
set_option linter.unusedVariables false
open Go.RowKit
open Go.Lib (hid)
abbrev newE (c : C7) : Ev := { zE with c := c }
theorem loadGC {ops : Array Oper} {rest : List Oper} {op : Oper} {a : Act} {w : World} {Q : Exit → Act → World → Prop} {x : Operand} {b : Nat} (e : Ev) (hgd : Region.wanted op (yielded ops a.tmps) = true) (ho : op.op = .load 67 x)
    (hx : a.eval x = .pointer (some ⟨b, 0, none⟩)) {T : TypeId} (hc : Ob w b T e) (h : wpList Tryz.prog ops Q rest (a.put op.dst (.agg e.arr)) w) : wpList Tryz.prog ops Q (op :: rest) a w :=
  BigFrame.wpList_want hgd fun _ hK => wp_load_mid 67 x ho b 0 hx e.list _ hc.range Tryz.underlying67 rfl (infoEc e) (hK _ _ h)
set_option maxHeartbeats 8000000 in
set_option maxRecDepth 100000 in
theorem cNew {c : C7} {w : World} (hc : c.ok = true) : Calls Tryz.prog 70 #[.agg #[.int .i64 c.i, .int .i64 c.k, .int .i64 c.s, .int .i64 c.t, .int .i64 c.d, .int .i64 c.p, .int .i64 c.q]] w fun x w' => x = .returned (.tuple #[.agg (newE c).arr, .int .i64 0]) ∧ Below w.heap.size w w' := by
  have hO : ∀ (W : World) (u : Value), Sl W u [c] → Calls Tryz.prog 64 #[u] W fun x w' => x = .returned (.bool true) ∧ Below W.heap.size W w' := fun W u hu => by
    have := cRight' hu (by simp)
    simpa [hc] using this
  have HO := hid hO
  clear hO hc
  have HC : Hid (((w.alloc (.cells #[.int .i64 c.i, .int .i64 c.k, .int .i64 c.s, .int .i64 c.t, .int .i64 c.d, .int .i64 c.p, .int .i64 c.q] 45)).alloc zeroEc).heap[w.heap.size]? = some ((.cells #[.int .i64 c.i, .int .i64 c.k, .int .i64 c.s, .int .i64 c.t, .int .i64 c.d, .int .i64 c.p, .int .i64 c.q] 45))) := hid (laid2_0 w (.cells #[.int .i64 c.i, .int .i64 c.k, .int .i64 c.s, .int .i64 c.t, .int .i64 c.d, .int .i64 c.p, .int .i64 c.q] 45) zeroEc)
  have HZ : Hid (Ob ((w.alloc (.cells #[.int .i64 c.i, .int .i64 c.k, .int .i64 c.s, .int .i64 c.t, .int .i64 c.d, .int .i64 c.p, .int .i64 c.q] 45)).alloc zeroEc) (w.heap.size + 1) 67 zE) := hid (laid2_1 w (.cells #[.int .i64 c.i, .int .i64 c.k, .int .i64 c.s, .int .i64 c.t, .int .i64 c.d, .int .i64 c.p, .int .i64 c.q] 45) zeroEc)
  have HW : Hid (Below w.heap.size w ((w.alloc (.cells #[.int .i64 c.i, .int .i64 c.k, .int .i64 c.s, .int .i64 c.t, .int .i64 c.d, .int .i64 c.p, .int .i64 c.q] 45)).alloc zeroEc)) := hid (laid2_b w (.cells #[.int .i64 c.i, .int .i64 c.k, .int .i64 c.s, .int .i64 c.t, .int .i64 c.d, .int .i64 c.p, .int .i64 c.q] 45) zeroEc)
  have tok : Hid (0 = 0) := hid rfl
  go_enter Tryz.func70, Tryz.ntmps70
  go_wp2_with (first
    | (clear tok; (with_reducible refine opaqueW ((w.alloc (.cells #[.int .i64 c.i, .int .i64 c.k, .int .i64 c.s, .int .i64 c.t, .int .i64 c.d, .int .i64 c.p, .int .i64 c.q] 45)).alloc zeroEc) ?_); intro W0 hW; rw [← hW] at HC HZ HW; clear hW; have kC0 : W0.cell? ⟨w.heap.size, 0, none⟩ = some (.int .i64 c.i) := (cellAt' HC.out 0).trans rfl; have kC1 : W0.cell? ⟨w.heap.size, 1, none⟩ = some (.int .i64 c.k) := (cellAt' HC.out 1).trans rfl; have kC2 : W0.cell? ⟨w.heap.size, 2, none⟩ = some (.int .i64 c.s) := (cellAt' HC.out 2).trans rfl; have kC3 : W0.cell? ⟨w.heap.size, 3, none⟩ = some (.int .i64 c.t) := (cellAt' HC.out 3).trans rfl; have kC4 : W0.cell? ⟨w.heap.size, 4, none⟩ = some (.int .i64 c.d) := (cellAt' HC.out 4).trans rfl; have kC5 : W0.cell? ⟨w.heap.size, 5, none⟩ = some (.int .i64 c.p) := (cellAt' HC.out 5).trans rfl; have kC6 : W0.cell? ⟨w.heap.size, 6, none⟩ = some (.int .i64 c.q) := (cellAt' HC.out 6).trans rfl)
    | fail)
  go_at_call 64
  refine (HO.out _ _ (Sl.madeC (c := c) rfl)).mono ?_
  rintro x w1 ⟨rfl, hB⟩
  have GC : Hid (w1.heap[w.heap.size]? = some ((.cells #[.int .i64 c.i, .int .i64 c.k, .int .i64 c.s, .int .i64 c.t, .int .i64 c.d, .int .i64 c.p, .int .i64 c.q] 45))) := hid (heapB ((obAlloc HC.out)) hB (Array.getElem?_eq_some_iff.1 ((obAlloc HC.out))).1)
  have GZ : Hid (Ob w1 (w.heap.size + 1) 67 zE) := hid (heapB ((obAlloc HZ.out)) hB (Array.getElem?_eq_some_iff.1 ((obAlloc HZ.out))).1)
  have GW := hid (((HW.out.alloc HW.out.size _)).trans (hB.mono ((HW.out.alloc HW.out.size _)).size))
  clear kC0 kC1 kC2 kC3 kC4 kC5 kC6
  clear hB HC HZ HW
  have HC := GC; clear GC
  have HZ := GZ; clear GZ
  have HW := GW; clear GW
  have kC0 : w1.cell? ⟨w.heap.size, 0, none⟩ = some (.int .i64 c.i) := (cellAt' HC.out 0).trans rfl
  have kC1 : w1.cell? ⟨w.heap.size, 1, none⟩ = some (.int .i64 c.k) := (cellAt' HC.out 1).trans rfl
  have kC2 : w1.cell? ⟨w.heap.size, 2, none⟩ = some (.int .i64 c.s) := (cellAt' HC.out 2).trans rfl
  have kC3 : w1.cell? ⟨w.heap.size, 3, none⟩ = some (.int .i64 c.t) := (cellAt' HC.out 3).trans rfl
  have kC4 : w1.cell? ⟨w.heap.size, 4, none⟩ = some (.int .i64 c.d) := (cellAt' HC.out 4).trans rfl
  have kC5 : w1.cell? ⟨w.heap.size, 5, none⟩ = some (.int .i64 c.p) := (cellAt' HC.out 5).trans rfl
  have kC6 : w1.cell? ⟨w.heap.size, 6, none⟩ = some (.int .i64 c.q) := (cellAt' HC.out 6).trans rfl
  go_wp2_with (first
    | ((with_reducible refine storeC (x := ?sx1) (y := ?sy1) (b := ?sb1) (T := 67) (newE c) ?sg1 ?so1 ?sxx1 ?syy1 ?sc1 ?sh1); (case sg1 => rfl); (case so1 => rfl); (case sxx1 => rfl); (case syy1 => rfl); (case sc1 => exact Ob.room HZ.out); intro W9 hO hU; have GZ := hid hO; have GC : Hid (W9.heap[w.heap.size]? = some ((.cells #[.int .i64 c.i, .int .i64 c.k, .int .i64 c.s, .int .i64 c.t, .int .i64 c.d, .int .i64 c.p, .int .i64 c.q] 45))) := hid (hU.ob (HC.out) (by omega)); have GW := hid ((HW.out).trans (hU.below _ (by first | exact Nat.le_refl _ | omega))); clear hO hU; clear kC0 kC1 kC2 kC3 kC4 kC5 kC6; clear HC HZ HW; have HC := GC; clear GC; have HZ := GZ; clear GZ; have HW := GW; clear GW))
  refine bodyPost_ret (ret_cell_tmp rfl rfl rfl (HZ.out).range Tryz.underlying67 rfl (infoEc (newE c))) rfl ⟨rfl, HW.out⟩
abbrev nS : Sv := ⟨none, 0, 0⟩
theorem nilS (W : World) : Sl W nS.v [] := (Own.nil W 0).sl
end Go.Proofs.YtlehcaacfgocaaaGreat
namespace Go.Proofs.YtlehcaacfgocaaaGreat
set_option linter.unusedVariables false
open Go.RowKit Go.Maps
open Go.Lib (hid)
def touchB (a b : C7) : Bool := decide (a.s = b.s) && !decide (a.i = b.i)
set_option maxHeartbeats 1000000 in
set_option maxRecDepth 100000 in
theorem cConflict (a b : C7) (w : World) : Calls Tryz.prog 184 #[a.v, b.v] w fun e w' => e = .returned (.bool (touchB a b)) ∧ Below w.heap.size w w' := by
  have hB : Below w.heap.size w ((w.alloc (.cells #[.int .i64 a.i, .int .i64 a.k, .int .i64 a.s, .int .i64 a.t, .int .i64 a.d, .int .i64 a.p, .int .i64 a.q] 45)).alloc (.cells #[.int .i64 b.i, .int .i64 b.k, .int .i64 b.s, .int .i64 b.t, .int .i64 b.d, .int .i64 b.p, .int .i64 b.q] 45)) := laid2_b w _ _
  obtain ⟨r, hr⟩ : ∃ r, r = touchB a b := ⟨_, rfl⟩
  rw [← hr]
  have HR := hid hr
  clear hr
  by_cases h1 : a.s = b.s
  · by_cases h2 : a.i = b.i
    · obtain rfl : r = false := by rw [HR.out]; simp [touchB, h2]
      have q1 : (a.s == b.s) = true := by simpa using h1
      have q2 : (a.i == b.i) = true := by simpa using h2
      clear h1 h2
      go_enter Tryz.func184, Tryz.ntmps184
      go_wp2
      go_ret
      exact ⟨by show Ending.returned (Value.bool (a.i != b.i)) = _; rw [bne, q2]; rfl, hB⟩
    · obtain rfl : r = true := by rw [HR.out]; simp [touchB, h1, h2]
      have q1 : (a.s == b.s) = true := by simpa using h1
      have q2 : (a.i == b.i) = false := by simpa using h2
      clear h1 h2
      go_enter Tryz.func184, Tryz.ntmps184
      go_wp2
      go_ret
      exact ⟨by show Ending.returned (Value.bool (a.i != b.i)) = _; rw [bne, q2]; rfl, hB⟩
  · obtain rfl : r = false := by rw [HR.out]; simp [touchB, h1]
    have q1 : (a.s == b.s) = false := by simpa using h1
    clear h1
    go_enter Tryz.func184, Tryz.ntmps184
    go_wp2
    go_ret
    exact ⟨rfl, hB⟩
def AllEn (xs ys : List En) : Prop := (ys.map En.id).Nodup ∧ ∀ y, y ∈ ys ↔ lookG En.id xs y.id = some y
theorem allEn_of {D : DataW Value} {xs ys : List En} {left : Lit → Bool} (h : Says D xs) (hC : CollectedI D left (ys.map En.id)) (hl : ∀ kl, left kl = false) (hV : ∀ y ∈ ys, lookG En.id xs y.id = some y) : AllEn xs ys := by
  refine ⟨hC.1, fun y => ⟨hV y, fun hy => ?_⟩⟩
  have hin := (hC.2 y.id).2 ⟨((h y.id).1 y hy).1, hl _⟩
  obtain ⟨z, hz, hi⟩ := List.mem_map.1 hin
  have := hV z hz
  rw [hi, hy] at this
  cases this
  exact hz
abbrev sel (c : C7) (P : En → Bool) (y : En) : Bool := touchB y.e.c c && P y
def touchL (xs : List En) (c : C7) (P : En → Bool) : List C7 := ((keptG En.id xs).filter (sel c P)).map fun y => y.e.c
theorem touch_sorted {xs ys : List En} {c : C7} {P : En → Bool} {s : List C7} (h : AllEn xs ys) (hp : s.Perm ((ys.filter (sel c P)).map fun y => y.e.c)) (hs : Sorted7 s) : s = touchL xs c P := by
  have hnd : (s.map C7.i).Nodup := by
    refine ((hp.map C7.i).nodup_iff).2 ?_
    rw [List.map_map]
    exact List.Sublist.nodup (List.Sublist.map _ (List.filter_sublist)) h.1
  have hu : Up C7.i s := by
    have hne : s.Pairwise fun a b => a.i ≠ b.i := List.pairwise_map.1 hnd
    exact (hs.and hne).imp fun {a b} h => by have h1 := h.1; have h2 := h.2; omega
  have hk : Up C7.i (touchL xs c P) := List.pairwise_map.2 (List.Pairwise.filter _ (kept_up En.id xs))
  refine up_same C7.i s _ hu hk fun z => ?_
  rw [hp.mem_iff]
  unfold touchL
  simp only [List.mem_map, List.mem_filter]
  constructor
  · rintro ⟨y, ⟨hy, hq⟩, rfl⟩; exact ⟨y, ⟨(kept_mem En.id xs y).2 ((h.2 y).1 hy), hq⟩, rfl⟩
  · rintro ⟨y, ⟨hy, hq⟩, rfl⟩; exact ⟨y, ⟨(h.2 y).2 ((kept_mem En.id xs y).1 hy), hq⟩, rfl⟩
theorem kept_lenG (xs : List En) : (keptG En.id xs).length ≤ xs.length := by
  induction xs using snocRec with
  | nil => simp [keptG]
  | snoc xs x ih =>
    rw [kept_snoc]
    have : ∀ l : List En, (placeR En.id x l).length ≤ l.length + 1 := by
      intro l
      induction l with
      | nil => simp [placeR]
      | cons y l ih2 =>
        unfold placeR
        split
        · have := List.length_filter_le (fun z => decide (z.id ≠ x.id)) (y :: l); simp only [List.length_cons] at *; omega
        · simp; omega
    have := this (keptG En.id xs)
    simp; omega
theorem touch_len (xs : List En) (c : C7) (P : En → Bool) : (touchL xs c P).length ≤ xs.length := by
  unfold touchL
  rw [List.length_map]
  exact Nat.le_trans (List.length_filter_le _ _) (kept_lenG xs)
theorem ranges_apart {w w' : World} {b r n : Nat} {D : DataW Value} {left : Lit → Bool} {cnt : Nat} {B : Nat} {v : Value} {cs : List C7} (h : w.ranges Tryz.prog 3 RE b r n D left cnt) (ho : Own w B v cs) (hg : w.grownBy w' v.ownBlock) : w'.ranges Tryz.prog 3 RE b r n D left cnt := by
  refine h.kept hg ?_ ?_
  · intro e
    obtain ⟨es, clock, hb, _⟩ := h.owns
    exact own_off ho hb (fun cur e => by cases e) e.symm
  · intro e
    have hw := h.iter_walk
    obtain ⟨o, ho1, ho2⟩ := hw
    exact own_off ho ho1 (fun cur e => by subst e; cases ho2) e.symm
set_option maxHeartbeats 8000000 in
set_option maxRecDepth 100000 in
theorem cTouching {w : World} {x b b2 n : Nat} {nd c0 : Int} {xs : List En} {ids : List Int} (h : Ix w x b b2 n nd c0 xs ids) (hn : n ≤ 20000) (c : C7) {g : FuncId} {lb : Array Value} {P : En → Bool} (eg : ∀ args W, (callFunc g args).run Tryz.prog W = .ok (.enter g args) W)
    (hP : ∀ W (y : En), lookG En.id xs y.id = some y → Below w.heap.size w W → Calls Tryz.prog g (#[.agg y.e.arr] ++ lb) W fun e w' => e = .returned (.bool (P y)) ∧ Below W.heap.size W w') :
    Calls Tryz.prog 151 #[ptr x, c.v, .func (.func g) #[] lb] w fun e w' => ∃ v, e = .returned v ∧ Sl w' v (touchL xs c P) ∧ Below w.heap.size w w' := by
  obtain ⟨i0, hi, hz0, hz1, hz2⟩ := info_parts Tryz.infoC
  have HW : Hid (Below w.heap.size w (w.alloc (.cells #[.int .i64 c.i, .int .i64 c.k, .int .i64 c.s, .int .i64 c.t, .int .i64 c.d, .int .i64 c.p, .int .i64 c.q] 45))) := hid ((Below.refl _ w).alloc (Nat.le_refl _) _)
  have HCB : Hid ((w.alloc (.cells #[.int .i64 c.i, .int .i64 c.k, .int .i64 c.s, .int .i64 c.t, .int .i64 c.d, .int .i64 c.p, .int .i64 c.q] 45)).heap[w.heap.size]? = some (.cells #[.int .i64 c.i, .int .i64 c.k, .int .i64 c.s, .int .i64 c.t, .int .i64 c.d, .int .i64 c.p, .int .i64 c.q] 45 (0, 0))) := hid (heap_alloc_new w _)
  have HP := hid hP
  have HJ := hid h
  clear h hP
  go_enter Tryz.func151, Tryz.ntmps151
  go_wp2_with fail
  generalize w.alloc (.cells #[.int .i64 c.i, .int .i64 c.k, .int .i64 c.s, .int .i64 c.t, .int .i64 c.d, .int .i64 c.p, .int .i64 c.q] 45) = W0 at HW HCB ⊢
  have HJ0 := hid (HJ.out.on HW.out)
  have hM := cMade HJ0.out
  obtain ⟨k0, k1, k2, k3, f1⟩ := HJ0.out.cells
  obtain ⟨D, hD, hS⟩ := HJ0.out.mp
  have HS := hid hS
  have HSZ := hid hD.size_le
  go_wp2_with (first
    | (go_at_call 48; refine hM.mono ?_; rintro e w' ⟨rfl, rfl⟩)
    | (at_range; refine wpList_range_own _ rfl _ 83 rfl 3 67 (Maps.int_keyed Tryz.underlying3) Tryz.underlying83 RE b n _ rfl hD ?_; intro w0 hrg0 hg0 hs0)
    | fail)
  go_frame
  have HCC := hid (fun (W : World) (hW : Below W0.heap.size W0 W) => heapB HCB.out hW (Array.getElem?_eq_some_iff.1 HCB.out).1)
  have HRG := hid hrg0
  have HSZ0 := hid (show w.heap.size < W0.heap.size from (Array.getElem?_eq_some_iff.1 HCB.out).1)
  have HB0 : Hid (Below W0.heap.size W0 w0) := hid ((Below.refl _ W0).grown hg0 (Nat.le_refl _) (fun k e => by cases e))
  clear hD hS hrg0 hg0 hs0 hM k0 k1 k2 k3 f1 HCB HJ HJ0
  go_loopw [7] (fun u wr => ∃ (left : Lit → Bool) (cnt : Nat) (ys : List En), wr.ranges Tryz.prog 3 RE b W0.heap.size n D left cnt ∧ ys.length + cnt ≤ Maps.size D ∧ CollectedI D left (ys.map En.id) ∧ (∀ y ∈ ys, lookG En.id xs y.id = some y) ∧ Own wr W0.heap.size u ((ys.filter (sel c P)).map fun y => y.e.c) ∧ Below W0.heap.size W0 wr) (fun _ wr => wr.rangeLeft b W0.heap.size)
  case atStart => exact ⟨_, _, [], HRG.out, by simp, CollectedI.start D, by simp, Own.nil _ _, HB0.out⟩
  case round =>
    obtain ⟨left, cnt, ys, hrg, hcs, hC, hV, hown, hB⟩ := hrel
    have HO := hid hown
    have HB := hid hB
    have HCS := hid hcs
    have HV := hid hV
    have HCO := hid hC
    have HR0 := hid hrg
    have HLE : Hid (((ys.filter (sel c P)).map fun y => y.e.c).length ≤ 20000) := hid (by have := HCS.out; have := HSZ.out; have := List.length_filter_le (sel c P) ys; rw [List.length_map]; omega)
    obtain ⟨g0, cap0, n0, rfl, -⟩ := hown.asSlice
    clear hown hB hcs hV hC HRG HB0
    go_wp2_with (first
      | (at_next; refine wpList_next_ranges _ rfl _ rfl 3 (Maps.int_keyed Tryz.underlying3) RE encZ (fun e : Ev => Value.agg e.arr) (fun key kl hk => by obtain ⟨x, hx, _⟩ := Maps.keyOf_i64 Tryz.underlying3 hk; exact ⟨x, hx⟩) (fun v y hv => by obtain ⟨e, rfl, _⟩ := RE_inv hv; exact ⟨e, rfl⟩) b W0.heap.size n _ _ _ rfl hrg ?_ ?_)
      | fail)
    · intro hc0 hl0
      have HA : Hid (AllEn xs ys) := hid (allEn_of HS.out HCO.out hl0 HV.out)
      have hSo := cSortC HO.out (by have := HLE.out; omega)
      clear hrg hc0 hl0
      go_wp2_with fail
      go_at_call 185
      refine hSo.mono ?_
      rintro e w5 ⟨rfl, s, hs, hp, hu, hB5⟩
      have HF := hid (And.intro hs (And.intro hp hu))
      have HB5 := hid hB5
      clear hs hp hu hB5 hSo
      go_wp2_with fail
      go_ret
      exact ⟨_, rfl, by rw [← touch_sorted HA.out HF.out.2.1 HF.out.2.2]; exact HF.out.1, HW.out.trans ((HB.out.trans HB5.out).mono (by have := HSZ0.out; omega))⟩
    · intro kx ev kl yd yp w2 cnt2 hkey hlk hv hat hrg2 hlt hg2 hs2 hen
      obtain ⟨x', ex, rfl, _⟩ := Maps.keyOf_i64 Tryz.underlying3 hkey
      obtain rfl : kx = x' := encZ_inj ex
      rw [RE_mk] at hv
      obtain rfl : yd = .held (.agg ev.arr) := by cases hv; rfl
      obtain ⟨y, hy, rfl, hci⟩ := says_at HS.out hat
      obtain rfl : y.id = kx := hci
      have hT2 : Tch (fun k => k = W0.heap.size) wr w2 := Tch.ofGrown hg2 fun k e => (Option.some.inj e).symm
      have HO2 : Hid (Own w2 W0.heap.size (.slice g0 n0 cap0) ((ys.filter (sel c P)).map fun y => y.e.c)) := hid (own_tch HO.out hT2 fun k hk e => by
        subst e
        obtain ⟨o, ho1, ho2⟩ := hrg.iter_walk
        exact own_off HO.out ho1 (fun cur e => by subst e; cases ho2) hk)
      have HB2 : Hid (Below W0.heap.size W0 w2) := hid (HB.out.grown hg2 HB.out.size (fun k e => by cases e; exact Nat.le_refl _))
      have HR2 := hid hrg2
      have HLT := hid hlt
      have HC2 := hid (show CollectedI D (fun z => left z && !z.sameKey (key y.id)) ((ys ++ [y]).map En.id) by have := HCO.out.step hlk hat; simpa using this)
      have HV2 := hid (show ∀ z ∈ ys ++ [y], lookG En.id xs z.id = some z from fun z hz => (List.mem_append.1 hz).elim (HV.out z) (fun h => by simp at h; subst h; exact hy))
      have HY := hid hy
      clear hs2 hrg2 hlt hv hat hkey hlk hg2 hT2 hy ex hrg HO HB HCO HV
      obtain ⟨tb, htb⟩ : ∃ tb, tb = touchB y.e.c c := ⟨_, rfl⟩
      obtain ⟨pb, hpb⟩ : ∃ pb, pb = P y := ⟨_, rfl⟩
      have HSEL : Hid (sel c P y = (tb && pb)) := hid (by rw [htb, hpb])
      have HCF := hid (fun W => cConflict y.e.c c W)
      have HPC := hid (fun W hW => HP.out W y HY.out hW)
      rw [← htb] at HCF
      rw [← hpb] at HPC
      clear htb hpb
      rcases tb with _ | _
      · go_wp2_with (first
          | ((with_reducible refine storeC (x := ?sx1) (y := ?sy1) (b := w2.heap.size) (T := 67) y.e ?sg1 ?so1 ?sxx1 ?syy1 ?sc1 ?_); (case sg1 => rfl); (case so1 => rfl); (case sxx1 => rfl); (case syy1 => rfl); (case sc1 => exact zeroRoom w2); intro W4 hO4 hU4
             have hb4 : Below w2.heap.size w2 W4 := ((Below.refl _ w2).alloc (Nat.le_refl _) _).trans (hU4.below _ (Nat.le_refl _))
             have HX4 := hid hO4
             have HO4 := hid (own_sl_below HO2.out hb4)
             have HB4 := hid (HB2.out.trans (hb4.mono HB2.out.size))
             have HR4 := hid (HR2.out.kept (grownBelow hb4 none) (by simp) (by simp))
             have hcc := HCC.out W4 HB4.out
             have e0 := hO4.cell (j := 0) (v := .int .i64 y.e.c.i) rfl; have e1 := hO4.cell (j := 1) (v := .int .i64 y.e.c.k) rfl; have e2 := hO4.cell (j := 2) (v := .int .i64 y.e.c.s) rfl; have e3 := hO4.cell (j := 3) (v := .int .i64 y.e.c.t) rfl; have e4 := hO4.cell (j := 4) (v := .int .i64 y.e.c.d) rfl; have e5 := hO4.cell (j := 5) (v := .int .i64 y.e.c.p) rfl; have e6 := hO4.cell (j := 6) (v := .int .i64 y.e.c.q) rfl
             have c0 : W4.cell? ⟨w.heap.size, 0, none⟩ = some (.int .i64 c.i) := (cellAt' hcc 0).trans rfl; have c1 : W4.cell? ⟨w.heap.size, 1, none⟩ = some (.int .i64 c.k) := (cellAt' hcc 1).trans rfl; have c2 : W4.cell? ⟨w.heap.size, 2, none⟩ = some (.int .i64 c.s) := (cellAt' hcc 2).trans rfl; have c3 : W4.cell? ⟨w.heap.size, 3, none⟩ = some (.int .i64 c.t) := (cellAt' hcc 3).trans rfl; have c4 : W4.cell? ⟨w.heap.size, 4, none⟩ = some (.int .i64 c.d) := (cellAt' hcc 4).trans rfl; have c5 : W4.cell? ⟨w.heap.size, 5, none⟩ = some (.int .i64 c.p) := (cellAt' hcc 5).trans rfl; have c6 : W4.cell? ⟨w.heap.size, 6, none⟩ = some (.int .i64 c.q) := (cellAt' hcc 6).trans rfl
             clear hU4 hb4 hcc hO4)
          | (go_at_call 184; refine (HCF.out W4).mono ?_; rintro q W5 ⟨rfl, hb5⟩
             have HX5 : Hid (Ob W5 w2.heap.size 67 y.e) := hid (heapB HX4.out hb5 (Array.getElem?_eq_some_iff.1 HX4.out).1)
             have HO5 := hid (own_sl_below HO4.out hb5)
             have HB5 := hid (HB4.out.trans (hb5.mono HB4.out.size))
             have HR5 := hid (HR4.out.kept (grownBelow hb5 none) (by simp) (by simp))
             have hpc := HPC.out W5 (HW.out.trans (HB5.out.mono (by have := HSZ0.out; omega)))
             clear hb5)
          | fail)
        go_roundw
        case rel => exact ⟨_, cnt2, ys ++ [y], HR5.out, by have := HCS.out; have := HLT.out; simp; omega, HC2.out, HV2.out, by have := HO5.out; rw [List.filter_append, List.filter_cons, HSEL.out]; simpa using this, HB5.out⟩
        case measure => rw [HR5.out.left_eq, HR0.out.left_eq]; exact HLT.out
      · rcases pb with _ | _
        · go_wp2_with (first
            | ((with_reducible refine storeC (x := ?sx1) (y := ?sy1) (b := w2.heap.size) (T := 67) y.e ?sg1 ?so1 ?sxx1 ?syy1 ?sc1 ?_); (case sg1 => rfl); (case so1 => rfl); (case sxx1 => rfl); (case syy1 => rfl); (case sc1 => exact zeroRoom w2); intro W4 hO4 hU4
               have hb4 : Below w2.heap.size w2 W4 := ((Below.refl _ w2).alloc (Nat.le_refl _) _).trans (hU4.below _ (Nat.le_refl _))
               have HX4 := hid hO4
               have HO4 := hid (own_sl_below HO2.out hb4)
               have HB4 := hid (HB2.out.trans (hb4.mono HB2.out.size))
               have HR4 := hid (HR2.out.kept (grownBelow hb4 none) (by simp) (by simp))
               have hcc := HCC.out W4 HB4.out
               have e0 := hO4.cell (j := 0) (v := .int .i64 y.e.c.i) rfl; have e1 := hO4.cell (j := 1) (v := .int .i64 y.e.c.k) rfl; have e2 := hO4.cell (j := 2) (v := .int .i64 y.e.c.s) rfl; have e3 := hO4.cell (j := 3) (v := .int .i64 y.e.c.t) rfl; have e4 := hO4.cell (j := 4) (v := .int .i64 y.e.c.d) rfl; have e5 := hO4.cell (j := 5) (v := .int .i64 y.e.c.p) rfl; have e6 := hO4.cell (j := 6) (v := .int .i64 y.e.c.q) rfl
               have c0 : W4.cell? ⟨w.heap.size, 0, none⟩ = some (.int .i64 c.i) := (cellAt' hcc 0).trans rfl; have c1 : W4.cell? ⟨w.heap.size, 1, none⟩ = some (.int .i64 c.k) := (cellAt' hcc 1).trans rfl; have c2 : W4.cell? ⟨w.heap.size, 2, none⟩ = some (.int .i64 c.s) := (cellAt' hcc 2).trans rfl; have c3 : W4.cell? ⟨w.heap.size, 3, none⟩ = some (.int .i64 c.t) := (cellAt' hcc 3).trans rfl; have c4 : W4.cell? ⟨w.heap.size, 4, none⟩ = some (.int .i64 c.d) := (cellAt' hcc 4).trans rfl; have c5 : W4.cell? ⟨w.heap.size, 5, none⟩ = some (.int .i64 c.p) := (cellAt' hcc 5).trans rfl; have c6 : W4.cell? ⟨w.heap.size, 6, none⟩ = some (.int .i64 c.q) := (cellAt' hcc 6).trans rfl
               clear hU4 hb4 hcc hO4)
            | (go_at_call 184; refine (HCF.out W4).mono ?_; rintro q W5 ⟨rfl, hb5⟩
               have HX5 : Hid (Ob W5 w2.heap.size 67 y.e) := hid (heapB HX4.out hb5 (Array.getElem?_eq_some_iff.1 HX4.out).1)
               have HO5 := hid (own_sl_below HO4.out hb5)
               have HB5 := hid (HB4.out.trans (hb5.mono HB4.out.size))
               have HR5 := hid (HR4.out.kept (grownBelow hb5 none) (by simp) (by simp))
               have hpc := HPC.out W5 (HW.out.trans (HB5.out.mono (by have := HSZ0.out; omega)))
               clear hb5)
            | ((with_reducible refine loadGC (x := ?cx2) (b := w2.heap.size) (T := 67) y.e ?cg2 ?co2 ?cxx2 ?cc2 ?_); (case cg2 => rfl); (case co2 => rfl); (case cxx2 => rfl); (case cc2 => exact HX5.out))
            | (go_at_fn g; refine hpc.mono ?_; rintro q W6 ⟨rfl, hb6⟩
               have HX6 : Hid (Ob W6 w2.heap.size 67 y.e) := hid (heapB HX5.out hb6 (Array.getElem?_eq_some_iff.1 HX5.out).1)
               have HO6 := hid (own_sl_below HO5.out hb6)
               have HB6 := hid (HB5.out.trans (hb6.mono HB5.out.size))
               have HR6 := hid (HR5.out.kept (grownBelow hb6 none) (by simp) (by simp))
               clear hb6)
            | fail)
          go_roundw
          case rel => exact ⟨_, cnt2, ys ++ [y], HR6.out, by have := HCS.out; have := HLT.out; simp; omega, HC2.out, HV2.out, by have := HO6.out; rw [List.filter_append, List.filter_cons, HSEL.out]; simpa using this, HB6.out⟩
          case measure => rw [HR6.out.left_eq, HR0.out.left_eq]; exact HLT.out
        · go_wp2_with (first
            | ((with_reducible refine storeC (x := ?sx1) (y := ?sy1) (b := w2.heap.size) (T := 67) y.e ?sg1 ?so1 ?sxx1 ?syy1 ?sc1 ?_); (case sg1 => rfl); (case so1 => rfl); (case sxx1 => rfl); (case syy1 => rfl); (case sc1 => exact zeroRoom w2); intro W4 hO4 hU4
               have hb4 : Below w2.heap.size w2 W4 := ((Below.refl _ w2).alloc (Nat.le_refl _) _).trans (hU4.below _ (Nat.le_refl _))
               have HX4 := hid hO4
               have HO4 := hid (own_sl_below HO2.out hb4)
               have HB4 := hid (HB2.out.trans (hb4.mono HB2.out.size))
               have HR4 := hid (HR2.out.kept (grownBelow hb4 none) (by simp) (by simp))
               have hcc := HCC.out W4 HB4.out
               have e0 := hO4.cell (j := 0) (v := .int .i64 y.e.c.i) rfl; have e1 := hO4.cell (j := 1) (v := .int .i64 y.e.c.k) rfl; have e2 := hO4.cell (j := 2) (v := .int .i64 y.e.c.s) rfl; have e3 := hO4.cell (j := 3) (v := .int .i64 y.e.c.t) rfl; have e4 := hO4.cell (j := 4) (v := .int .i64 y.e.c.d) rfl; have e5 := hO4.cell (j := 5) (v := .int .i64 y.e.c.p) rfl; have e6 := hO4.cell (j := 6) (v := .int .i64 y.e.c.q) rfl
               have c0 : W4.cell? ⟨w.heap.size, 0, none⟩ = some (.int .i64 c.i) := (cellAt' hcc 0).trans rfl; have c1 : W4.cell? ⟨w.heap.size, 1, none⟩ = some (.int .i64 c.k) := (cellAt' hcc 1).trans rfl; have c2 : W4.cell? ⟨w.heap.size, 2, none⟩ = some (.int .i64 c.s) := (cellAt' hcc 2).trans rfl; have c3 : W4.cell? ⟨w.heap.size, 3, none⟩ = some (.int .i64 c.t) := (cellAt' hcc 3).trans rfl; have c4 : W4.cell? ⟨w.heap.size, 4, none⟩ = some (.int .i64 c.d) := (cellAt' hcc 4).trans rfl; have c5 : W4.cell? ⟨w.heap.size, 5, none⟩ = some (.int .i64 c.p) := (cellAt' hcc 5).trans rfl; have c6 : W4.cell? ⟨w.heap.size, 6, none⟩ = some (.int .i64 c.q) := (cellAt' hcc 6).trans rfl
               clear hU4 hb4 hcc hO4)
            | (go_at_call 184; refine (HCF.out W4).mono ?_; rintro q W5 ⟨rfl, hb5⟩
               have HX5 : Hid (Ob W5 w2.heap.size 67 y.e) := hid (heapB HX4.out hb5 (Array.getElem?_eq_some_iff.1 HX4.out).1)
               have HO5 := hid (own_sl_below HO4.out hb5)
               have HB5 := hid (HB4.out.trans (hb5.mono HB4.out.size))
               have HR5 := hid (HR4.out.kept (grownBelow hb5 none) (by simp) (by simp))
               have hpc := HPC.out W5 (HW.out.trans (HB5.out.mono (by have := HSZ0.out; omega)))
               clear hb5)
            | ((with_reducible refine loadGC (x := ?cx2) (b := w2.heap.size) (T := 67) y.e ?cg2 ?co2 ?cxx2 ?cc2 ?_); (case cg2 => rfl); (case co2 => rfl); (case cxx2 => rfl); (case cc2 => exact HX5.out))
            | (go_at_fn g; refine hpc.mono ?_; rintro q W6 ⟨rfl, hb6⟩
               have HX6 : Hid (Ob W6 w2.heap.size 67 y.e) := hid (heapB HX5.out hb6 (Array.getElem?_eq_some_iff.1 HX5.out).1)
               have HO6 := hid (own_sl_below HO5.out hb6)
               have HB6 := hid (HB5.out.trans (hb6.mono HB5.out.size))
               have HR6 := hid (HR5.out.kept (grownBelow hb6 none) (by simp) (by simp))
               have f0 := HX6.out.cell (j := 0) (v := .int .i64 y.e.c.i) rfl; have f1 := HX6.out.cell (j := 1) (v := .int .i64 y.e.c.k) rfl; have f2 := HX6.out.cell (j := 2) (v := .int .i64 y.e.c.s) rfl; have f3 := HX6.out.cell (j := 3) (v := .int .i64 y.e.c.t) rfl; have f4 := HX6.out.cell (j := 4) (v := .int .i64 y.e.c.d) rfl; have f5 := HX6.out.cell (j := 5) (v := .int .i64 y.e.c.p) rfl; have f6 := HX6.out.cell (j := 6) (v := .int .i64 y.e.c.q) rfl
               clear hb6)
            | (at_builtin; refine wpList_append_own _ rfl _ _ 46 rfl W0.heap.size 45 i0 _ 7 56 Tryz.underlying46 hi hz0 hz1 hz2 rfl (by decide) _ _ _ rfl (HO6.out.alloc _) ⟨W6.heap.size, 0, none⟩ 1 1 y.e.c.cells rfl rfl ?c1 ?c2 ?c3 ?c4 ?c5 ?_)
            | fail)
          case c1 => exact new_cell rfl
          case c2 => exact cells_one y.e.c
          case c3 => have := HLE.out; unfold maxLen; omega
          case c4 => have := HLE.out; omega
          case c5 => have := HB6.out.size; simp; omega
          intro v' w7 hown' hgrow _
          have R := Own.grows (HB6.out.alloc HB6.out.size _) (by have := HB6.out.size; simp; omega) (fun k hk => (HO6.out.lt k hk).1) (cs := (ys.filter (sel c P)).map fun y => y.e.c) (by rw [List.length_map]; exact hown') hgrow
          have HR7 := hid (ranges_apart (HR6.out.alloc _) (HO6.out.alloc _) hgrow)
          have HQ := hid R
          clear hown' hgrow R
          go_wp2_with fail
          go_roundw
          case rel => exact ⟨_, cnt2, ys ++ [y], HR7.out, by have := HCS.out; have := HLT.out; simp; omega, HC2.out, HV2.out, by have := HQ.out.1; rw [List.filter_append, List.filter_cons, HSEL.out]; simpa using this, HQ.out.2⟩
          case measure => rw [HR7.out.left_eq, HR0.out.left_eq]; exact HLT.out
end Go.Proofs.YtlehcaacfgocaaaGreat
