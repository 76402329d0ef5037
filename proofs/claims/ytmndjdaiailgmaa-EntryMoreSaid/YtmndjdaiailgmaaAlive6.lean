/- Entries by value: New; the live question of layer 6. -/
import Derived.Test.YtmndjdaiailgmaaRest4
namespace Go.Proofs.Ytmndjdaiailgmaa
set_option linter.unusedVariables false
open Go.RowKit
open Go.Lib (hid)

abbrev newE (c : C7) : Ev := { zE with c := c }
theorem loadGC {ops : Array Oper} {rest : List Oper} {op : Oper} {a : Act} {w : World} {Q : Exit → Act → World → Prop} {x : Operand} {b : Nat} (e : Ev) (hgd : Region.wanted op (yielded ops a.tmps) = true) (ho : op.op = .load 30 x)
    (hx : a.eval x = .pointer (some ⟨b, 0, none⟩)) {T : TypeId} (hc : Ob w b T e) (h : wpList Try.prog ops Q rest (a.put op.dst (.agg e.arr)) w) : wpList Try.prog ops Q (op :: rest) a w :=
  BigFrame.wpList_want hgd fun _ hK => wp_load_mid 30 x ho b 0 hx e.list _ hc.range Try.underlying30 rfl (infoEc e) (hK _ _ h)
theorem loadGR {ops : Array Oper} {rest : List Oper} {op : Oper} {a : Act} {w : World} {Q : Exit → Act → World → Prop} {x : Operand} {b : Nat} (e : Ev) (hgd : Region.wanted op (yielded ops a.tmps) = true) (ho : op.op = .load 36 x)
    (hx : a.eval x = .pointer (some ⟨b, 0, none⟩)) {T : TypeId} (hc : Ob w b T e) (h : wpList Try.prog ops Q rest (a.put op.dst (.agg e.arr)) w) : wpList Try.prog ops Q (op :: rest) a w :=
  BigFrame.wpList_want hgd fun _ hK => wp_load_mid 36 x ho b 0 hx e.list _ hc.range Try.underlying36 rfl (infoE e) (hK _ _ h)
set_option maxHeartbeats 8000000 in
set_option maxRecDepth 100000 in
theorem cNew {c : C7} {w : World} (hc : c.ok = true) : Calls Try.prog 22 #[.agg #[.int .i64 c.i, .int .i64 c.k, .int .i64 c.s, .int .i64 c.t, .int .i64 c.d, .int .i64 c.p, .int .i64 c.q]] w fun x w' => x = .returned (.tuple #[.agg (newE c).arr, .int .i64 0]) ∧ Below w.heap.size w w' := by
  have hO : ∀ (W : World) (u : Value), Sl W u [c] → Calls Try.prog 17 #[u] W fun x w' => x = .returned (.bool true) ∧ Below W.heap.size W w' := fun W u hu => by
    have := cRight' hu (by simp)
    simpa [hc] using this
  have HO := hid hO
  clear hO hc
  have HC : Hid (((w.alloc (.cells #[.int .i64 c.i, .int .i64 c.k, .int .i64 c.s, .int .i64 c.t, .int .i64 c.d, .int .i64 c.p, .int .i64 c.q] 25)).alloc zeroEc).heap[w.heap.size]? = some ((.cells #[.int .i64 c.i, .int .i64 c.k, .int .i64 c.s, .int .i64 c.t, .int .i64 c.d, .int .i64 c.p, .int .i64 c.q] 25))) := hid (laid2_0 w (.cells #[.int .i64 c.i, .int .i64 c.k, .int .i64 c.s, .int .i64 c.t, .int .i64 c.d, .int .i64 c.p, .int .i64 c.q] 25) zeroEc)
  have HZ : Hid (Ob ((w.alloc (.cells #[.int .i64 c.i, .int .i64 c.k, .int .i64 c.s, .int .i64 c.t, .int .i64 c.d, .int .i64 c.p, .int .i64 c.q] 25)).alloc zeroEc) (w.heap.size + 1) 30 zE) := hid (laid2_1 w (.cells #[.int .i64 c.i, .int .i64 c.k, .int .i64 c.s, .int .i64 c.t, .int .i64 c.d, .int .i64 c.p, .int .i64 c.q] 25) zeroEc)
  have HW : Hid (Below w.heap.size w ((w.alloc (.cells #[.int .i64 c.i, .int .i64 c.k, .int .i64 c.s, .int .i64 c.t, .int .i64 c.d, .int .i64 c.p, .int .i64 c.q] 25)).alloc zeroEc)) := hid (laid2_b w (.cells #[.int .i64 c.i, .int .i64 c.k, .int .i64 c.s, .int .i64 c.t, .int .i64 c.d, .int .i64 c.p, .int .i64 c.q] 25) zeroEc)
  have tok : Hid (0 = 0) := hid rfl
  go_enter Try.func22, Try.ntmps22
  go_wp2_with (first
    | (clear tok; (with_reducible refine opaqueW ((w.alloc (.cells #[.int .i64 c.i, .int .i64 c.k, .int .i64 c.s, .int .i64 c.t, .int .i64 c.d, .int .i64 c.p, .int .i64 c.q] 25)).alloc zeroEc) ?_); intro W0 hW; rw [← hW] at HC HZ HW; clear hW; have kC0 : W0.cell? ⟨w.heap.size, 0, none⟩ = some (.int .i64 c.i) := (cellAt' HC.out 0).trans rfl; have kC1 : W0.cell? ⟨w.heap.size, 1, none⟩ = some (.int .i64 c.k) := (cellAt' HC.out 1).trans rfl; have kC2 : W0.cell? ⟨w.heap.size, 2, none⟩ = some (.int .i64 c.s) := (cellAt' HC.out 2).trans rfl; have kC3 : W0.cell? ⟨w.heap.size, 3, none⟩ = some (.int .i64 c.t) := (cellAt' HC.out 3).trans rfl; have kC4 : W0.cell? ⟨w.heap.size, 4, none⟩ = some (.int .i64 c.d) := (cellAt' HC.out 4).trans rfl; have kC5 : W0.cell? ⟨w.heap.size, 5, none⟩ = some (.int .i64 c.p) := (cellAt' HC.out 5).trans rfl; have kC6 : W0.cell? ⟨w.heap.size, 6, none⟩ = some (.int .i64 c.q) := (cellAt' HC.out 6).trans rfl)
    | fail)
  go_at_call 17
  refine (HO.out _ _ (Sl.madeC (c := c) rfl)).mono ?_
  rintro x w1 ⟨rfl, hB⟩
  have GC : Hid (w1.heap[w.heap.size]? = some ((.cells #[.int .i64 c.i, .int .i64 c.k, .int .i64 c.s, .int .i64 c.t, .int .i64 c.d, .int .i64 c.p, .int .i64 c.q] 25))) := hid (heapB ((obAlloc HC.out)) hB (Array.getElem?_eq_some_iff.1 ((obAlloc HC.out))).1)
  have GZ : Hid (Ob w1 (w.heap.size + 1) 30 zE) := hid (heapB ((obAlloc HZ.out)) hB (Array.getElem?_eq_some_iff.1 ((obAlloc HZ.out))).1)
  have GW := hid (((HW.out.alloc HW.out.size _)).trans (hB.mono ((HW.out.alloc HW.out.size _)).size))
  clear kC0 kC1 kC2 kC3 kC4 kC5 kC6
  clear hB HC HZ HW
  have HC := GC; clear GC
  have HZ := GZ; clear GZ
  have HW := GW; clear GW
  have kC0 : w1.cell? ⟨w.heap.size, 0, none⟩ = some (.int .i64 c.i) := (cellAt' HC.out 0).trans rfl
  have kC1 : w1.cell? ⟨w.heap.size, 1, none⟩ = some (.int .i64 c.k) := (cellAt' HC.out 1).trans rfl
  have kC2 : w1.cell? ⟨w.heap.size, 2, none⟩ = some (.int .i64 c.s) := (cellAt' HC.out 2).trans rfl
  have kC3 : w1.cell? ⟨w.heap.size, 3, none⟩ = some (.int .i64 c.t) := (cellAt' HC.out 3).trans rfl
  have kC4 : w1.cell? ⟨w.heap.size, 4, none⟩ = some (.int .i64 c.d) := (cellAt' HC.out 4).trans rfl
  have kC5 : w1.cell? ⟨w.heap.size, 5, none⟩ = some (.int .i64 c.p) := (cellAt' HC.out 5).trans rfl
  have kC6 : w1.cell? ⟨w.heap.size, 6, none⟩ = some (.int .i64 c.q) := (cellAt' HC.out 6).trans rfl
  go_wp2_with (first
    | ((with_reducible refine storeC (x := ?sx1) (y := ?sy1) (b := ?sb1) (T := 30) (newE c) ?sg1 ?so1 ?sxx1 ?syy1 ?sc1 ?sh1); (case sg1 => rfl); (case so1 => rfl); (case sxx1 => rfl); (case syy1 => rfl); (case sc1 => exact Ob.room HZ.out); intro W9 hO hU; have GZ := hid hO; have GC : Hid (W9.heap[w.heap.size]? = some ((.cells #[.int .i64 c.i, .int .i64 c.k, .int .i64 c.s, .int .i64 c.t, .int .i64 c.d, .int .i64 c.p, .int .i64 c.q] 25))) := hid (hU.ob (HC.out) (by omega)); have GW := hid ((HW.out).trans (hU.below _ (by first | exact Nat.le_refl _ | omega))); clear hO hU; clear kC0 kC1 kC2 kC3 kC4 kC5 kC6; clear HC HZ HW; have HC := GC; clear GC; have HZ := GZ; clear GZ; have HW := GW; clear GW))
  refine bodyPost_ret (ret_cell_tmp rfl rfl rfl (HZ.out).range Try.underlying30 rfl (infoEc (newE c))) rfl ⟨rfl, HW.out⟩

abbrev aC : C7 := ⟨16, 1, 0, 17, 0, 0, 0⟩
abbrev nS : Sv := ⟨none, 0, 0⟩
abbrev aE1 : Ev := { newE aC with lo := 33, hi := 33, ft := 33 }
abbrev aE2 : Ev := { aE1 with pr := 5, hi := 48, ab := 5, xt := 48 }
theorem nilS (W : World) : Sl W nS.v [] := (Own.nil W 0).sl
theorem a_vote (W : World) : Calls Try.prog 23 #[.agg (newE aC).arr, .agg #[.int .i64 33, nS.v]] W fun x w' => x = .returned (.tuple #[.agg aE1.arr, .int .i64 0]) ∧ Below W.heap.size W w' :=
  cVote (e := newE aC) (t := 33) (p := nS) (nilS W) (nilS W) (by simp) (by simp) (by decide)
theorem a_acc (W : World) : Calls Try.prog 24 #[.agg aE1.arr, .int .i64 5, .agg #[.int .i64 48, nS.v]] W fun x w' => x = .returned (.tuple #[.agg aE2.arr, .int .i64 0]) ∧ Below W.heap.size W w' :=
  cAccept (e := aE1) (b := 5) (t := 48) (p := nS) (nilS W) (by simp) (by decide)
theorem a_prom (W : World) : Calls Try.prog 25 #[.agg aE2.arr, .int .i64 4] W fun x w' => x = .returned (.tuple #[.agg aE2.arr, .int .i64 11]) ∧ Below W.heap.size W w' := cPromise aE2 4 W
theorem a_ahead (W : World) : Calls Try.prog 26 #[.agg aE1.arr, .int .i64 34] W fun x w' => x = .returned (.bool true) ∧ Below W.heap.size W w' := cAheadE aE1 34 W
theorem a_holds (W : World) : Calls Try.prog 27 #[.agg aE1.arr, .int .i64 32] W fun x w' => x = .returned (.bool true) ∧ Below W.heap.size W w' := cHoldsE aE1 32 W
theorem a_new (W : World) : Calls Try.prog 22 #[.agg #[.int .i64 16, .int .i64 1, .int .i64 0, .int .i64 17, .int .i64 0, .int .i64 0, .int .i64 0]] W fun x w' => x = .returned (.tuple #[.agg (newE aC).arr, .int .i64 0]) ∧ Below W.heap.size W w' := cNew (c := aC) (by decide)

set_option maxHeartbeats 8000000 in
set_option maxRecDepth 100000 in
theorem cAlive6 (w : World) : Calls Try.prog 7 #[] w fun x w' => x = .returned (.bool true) ∧ Below w.heap.size w w' := by
  obtain ⟨e0, he0⟩ : ∃ x : Ev, x = newE aC := ⟨_, rfl⟩
  obtain ⟨e1, he1⟩ : ∃ x : Ev, x = aE1 := ⟨_, rfl⟩
  obtain ⟨e2, he2⟩ : ∃ x : Ev, x = aE2 := ⟨_, rfl⟩
  have hN := a_new
  have hV := a_vote
  have hA := a_acc
  have hP := a_prom
  have hH := a_ahead
  have hL := a_holds
  rw [← he0] at hN hV
  rw [← he1] at hV hA hH hL
  rw [← he2] at hA hP
  have h8 : e2.list[8]? = some (.int .i64 33) := by rw [he2]; rfl
  have h9 : e2.list[9]? = some (.int .i64 48) := by rw [he2]; rfl
  have h7 : e2.list[7]? = some (.int .i64 5) := by rw [he2]; rfl
  have h16 : e1.list[16]? = some (.bool false) := by rw [he1]; rfl
  have h12 : e1.list[12]? = some (.int .i64 0) := by rw [he1]; rfl
  have H7 := hid h7
  have H8 := hid h8
  have H9 := hid h9
  have H16 := hid h16
  have H12 := hid h12
  clear he0 he1 he2 h7 h8 h9 h16 h12
  go_enter Try.func7, Try.ntmps7
  go_wp2_with fail
  go_at_call 22
  refine (hN _).mono ?_
  rintro x w1 ⟨rfl, hB⟩
  have HW := hid hB
  clear hB
  have ltwA : w.heap.size ≤ w1.heap.size := (HW.out).size
  have RA : Room (w1.alloc zeroEc) w1.heap.size 30 := ⟨_, heap_alloc_new w1 zeroEc, rfl⟩
  go_wp2_with (first
    | ((with_reducible refine uponStore (e := e0) (RA) ?_); intro w2 hO hU; have GA := hid hO; have GW := hid ((((HW.out).alloc (HW.out).size _)).trans (hU.below _ (by first | exact Nat.le_refl _ | omega))); clear hO hU; clear  HW; have HA := GA; clear GA; have HW := GW; clear GW)
    | ((with_reducible refine loadC (x := ?lx2) (b := ?lb2) (T := 30) e0 ?lg2 ?lo2 ?lxx2 ?lc2 ?lh2); (case lg2 => rfl); (case lo2 => rfl); (case lxx2 => rfl); (case lc2 => exact HA.out)))
  go_at_call 23
  refine (hV _).mono ?_
  rintro x w3 ⟨rfl, hB⟩
  have GA : Hid (Ob w3 (w1.heap.size) 30 e0) := hid (heapB (HA.out) hB (Array.getElem?_eq_some_iff.1 (HA.out)).1)
  have GW := hid ((HW.out).trans (hB.mono (HW.out).size))
  clear hB HA HW
  have HA := GA; clear GA
  have HW := GW; clear GW
  have ltBA : w1.heap.size < w3.heap.size := (Array.getElem?_eq_some_iff.1 (HA.out)).1
  have ltwB : w.heap.size ≤ w3.heap.size := (HW.out).size
  have RB : Room (w3.alloc zeroEc) w3.heap.size 30 := ⟨_, heap_alloc_new w3 zeroEc, rfl⟩
  go_wp2_with (first
    | ((with_reducible refine uponStore (e := e1) (RB) ?_); intro w4 hO hU; have GB := hid hO; have GA : Hid (Ob w4 (w1.heap.size) 30 e0) := hid (hU.ob ((obAlloc HA.out)) (by omega)); have GW := hid ((((HW.out).alloc (HW.out).size _)).trans (hU.below _ (by first | exact Nat.le_refl _ | omega))); clear hO hU; clear HA HW; have HA := GA; clear GA; have HB := GB; clear GB; have HW := GW; clear GW)
    | ((with_reducible refine loadC (x := ?lx3) (b := ?lb3) (T := 30) e1 ?lg3 ?lo3 ?lxx3 ?lc3 ?lh3); (case lg3 => rfl); (case lo3 => rfl); (case lxx3 => rfl); (case lc3 => exact HB.out)))
  go_at_call 24
  refine (hA _).mono ?_
  rintro x w5 ⟨rfl, hB⟩
  have GA : Hid (Ob w5 (w1.heap.size) 30 e0) := hid (heapB (HA.out) hB (Array.getElem?_eq_some_iff.1 (HA.out)).1)
  have GB : Hid (Ob w5 (w3.heap.size) 30 e1) := hid (heapB (HB.out) hB (Array.getElem?_eq_some_iff.1 (HB.out)).1)
  have GW := hid ((HW.out).trans (hB.mono (HW.out).size))
  clear hB HA HB HW
  have HA := GA; clear GA
  have HB := GB; clear GB
  have HW := GW; clear GW
  have ltCA : w1.heap.size < w5.heap.size := (Array.getElem?_eq_some_iff.1 (HA.out)).1
  have ltCB : w3.heap.size < w5.heap.size := (Array.getElem?_eq_some_iff.1 (HB.out)).1
  have ltwC : w.heap.size ≤ w5.heap.size := (HW.out).size
  have RC : Room (w5.alloc zeroEc) w5.heap.size 30 := ⟨_, heap_alloc_new w5 zeroEc, rfl⟩
  go_wp2_with (first
    | ((with_reducible refine uponStore (e := e2) (RC) ?_); intro w6 hO hU; have GC := hid hO; have GA : Hid (Ob w6 (w1.heap.size) 30 e0) := hid (hU.ob ((obAlloc HA.out)) (by omega)); have GB : Hid (Ob w6 (w3.heap.size) 30 e1) := hid (hU.ob ((obAlloc HB.out)) (by omega)); have GW := hid ((((HW.out).alloc (HW.out).size _)).trans (hU.below _ (by first | exact Nat.le_refl _ | omega))); clear hO hU; clear HA HB HW; have HA := GA; clear GA; have HB := GB; clear GB; have HC := GC; clear GC; have HW := GW; clear GW)
    | ((with_reducible refine loadC (x := ?lx4) (b := ?lb4) (T := 30) e2 ?lg4 ?lo4 ?lxx4 ?lc4 ?lh4); (case lg4 => rfl); (case lo4 => rfl); (case lxx4 => rfl); (case lc4 => exact HC.out)))
  go_at_call 25
  refine (hP _).mono ?_
  rintro x w7 ⟨rfl, hB⟩
  have GA : Hid (Ob w7 (w1.heap.size) 30 e0) := hid (heapB (HA.out) hB (Array.getElem?_eq_some_iff.1 (HA.out)).1)
  have GB : Hid (Ob w7 (w3.heap.size) 30 e1) := hid (heapB (HB.out) hB (Array.getElem?_eq_some_iff.1 (HB.out)).1)
  have GC : Hid (Ob w7 (w5.heap.size) 30 e2) := hid (heapB (HC.out) hB (Array.getElem?_eq_some_iff.1 (HC.out)).1)
  have GW := hid ((HW.out).trans (hB.mono (HW.out).size))
  clear hB HA HB HC HW
  have HA := GA; clear GA
  have HB := GB; clear GB
  have HC := GC; clear GC
  have HW := GW; clear GW
  have ltDA : w1.heap.size < w7.heap.size := (Array.getElem?_eq_some_iff.1 (HA.out)).1
  have ltDB : w3.heap.size < w7.heap.size := (Array.getElem?_eq_some_iff.1 (HB.out)).1
  have ltDC : w5.heap.size < w7.heap.size := (Array.getElem?_eq_some_iff.1 (HC.out)).1
  have ltwD : w.heap.size ≤ w7.heap.size := (HW.out).size
  have RD : Room (w7.alloc zeroEc) w7.heap.size 30 := ⟨_, heap_alloc_new w7 zeroEc, rfl⟩
  go_wp2_with (first
    | ((with_reducible refine uponStore (e := e2) (RD) ?_); intro w8 hO hU; have GD := hid hO; have GA : Hid (Ob w8 (w1.heap.size) 30 e0) := hid (hU.ob ((obAlloc HA.out)) (by omega)); have GB : Hid (Ob w8 (w3.heap.size) 30 e1) := hid (hU.ob ((obAlloc HB.out)) (by omega)); have GC : Hid (Ob w8 (w5.heap.size) 30 e2) := hid (hU.ob ((obAlloc HC.out)) (by omega)); have GW := hid ((((HW.out).alloc (HW.out).size _)).trans (hU.below _ (by first | exact Nat.le_refl _ | omega))); clear hO hU; clear HA HB HC HW; have HA := GA; clear GA; have HB := GB; clear GB; have HC := GC; clear GC; have HD := GD; clear GD; have HW := GW; clear GW; have k8 : w8.cell? ⟨w5.heap.size, 8, none⟩ = some (.int .i64 33) := (HC.out).cell H8.out; have k9 : w8.cell? ⟨w5.heap.size, 9, none⟩ = some (.int .i64 48) := (HC.out).cell H9.out; have k7 : w8.cell? ⟨w5.heap.size, 7, none⟩ = some (.int .i64 5) := (HC.out).cell H7.out; have k16 : w8.cell? ⟨w3.heap.size, 16, none⟩ = some (.bool false) := (HB.out).cell H16.out; have k12 : w8.cell? ⟨w3.heap.size, 12, none⟩ = some (.int .i64 0) := (HB.out).cell H12.out)
    | ((with_reducible refine loadGC (x := ?lx5) (b := ?lb5) (T := 30) e1 ?lg5 ?lo5 ?lxx5 ?lc5 ?lh5); (case lo5 => rfl); (case lg5 => rfl); (case lxx5 => rfl); (case lc5 => exact HB.out))
    | fail)
  go_at_call 26
  refine (hH _).mono ?_
  rintro x w9 ⟨rfl, hB⟩
  have GA : Hid (Ob w9 (w1.heap.size) 30 e0) := hid (heapB (HA.out) hB (Array.getElem?_eq_some_iff.1 (HA.out)).1)
  have GB : Hid (Ob w9 (w3.heap.size) 30 e1) := hid (heapB (HB.out) hB (Array.getElem?_eq_some_iff.1 (HB.out)).1)
  have GC : Hid (Ob w9 (w5.heap.size) 30 e2) := hid (heapB (HC.out) hB (Array.getElem?_eq_some_iff.1 (HC.out)).1)
  have GD : Hid (Ob w9 (w7.heap.size) 30 e2) := hid (heapB (HD.out) hB (Array.getElem?_eq_some_iff.1 (HD.out)).1)
  have GW := hid ((HW.out).trans (hB.mono (HW.out).size))
  clear k7 k8 k9 k16 k12
  clear hB HA HB HC HD HW
  have HA := GA; clear GA
  have HB := GB; clear GB
  have HC := GC; clear GC
  have HD := GD; clear GD
  have HW := GW; clear GW
  have k8 : w9.cell? ⟨w5.heap.size, 8, none⟩ = some (.int .i64 33) := (HC.out).cell H8.out
  have k9 : w9.cell? ⟨w5.heap.size, 9, none⟩ = some (.int .i64 48) := (HC.out).cell H9.out
  have k7 : w9.cell? ⟨w5.heap.size, 7, none⟩ = some (.int .i64 5) := (HC.out).cell H7.out
  have k16 : w9.cell? ⟨w3.heap.size, 16, none⟩ = some (.bool false) := (HB.out).cell H16.out
  have k12 : w9.cell? ⟨w3.heap.size, 12, none⟩ = some (.int .i64 0) := (HB.out).cell H12.out
  go_wp2_with (first
    | ((with_reducible refine loadGC (x := ?lx6) (b := ?lb6) (T := 30) e1 ?lg6 ?lo6 ?lxx6 ?lc6 ?lh6); (case lo6 => rfl); (case lg6 => rfl); (case lxx6 => rfl); (case lc6 => exact HB.out))
    | fail)
  go_at_call 27
  refine (hL _).mono ?_
  rintro x w10 ⟨rfl, hB⟩
  have GA : Hid (Ob w10 (w1.heap.size) 30 e0) := hid (heapB (HA.out) hB (Array.getElem?_eq_some_iff.1 (HA.out)).1)
  have GB : Hid (Ob w10 (w3.heap.size) 30 e1) := hid (heapB (HB.out) hB (Array.getElem?_eq_some_iff.1 (HB.out)).1)
  have GC : Hid (Ob w10 (w5.heap.size) 30 e2) := hid (heapB (HC.out) hB (Array.getElem?_eq_some_iff.1 (HC.out)).1)
  have GD : Hid (Ob w10 (w7.heap.size) 30 e2) := hid (heapB (HD.out) hB (Array.getElem?_eq_some_iff.1 (HD.out)).1)
  have GW := hid ((HW.out).trans (hB.mono (HW.out).size))
  clear k7 k8 k9 k16 k12
  clear hB HA HB HC HD HW
  have HA := GA; clear GA
  have HB := GB; clear GB
  have HC := GC; clear GC
  have HD := GD; clear GD
  have HW := GW; clear GW
  have k8 : w10.cell? ⟨w5.heap.size, 8, none⟩ = some (.int .i64 33) := (HC.out).cell H8.out
  have k9 : w10.cell? ⟨w5.heap.size, 9, none⟩ = some (.int .i64 48) := (HC.out).cell H9.out
  have k7 : w10.cell? ⟨w5.heap.size, 7, none⟩ = some (.int .i64 5) := (HC.out).cell H7.out
  have k16 : w10.cell? ⟨w3.heap.size, 16, none⟩ = some (.bool false) := (HB.out).cell H16.out
  have k12 : w10.cell? ⟨w3.heap.size, 12, none⟩ = some (.int .i64 0) := (HB.out).cell H12.out
  go_wp2_with fail
  go_ret
  exact ⟨rfl, HW.out⟩
end Go.Proofs.Ytmndjdaiailgmaa
