import Derived.Test.YtpkkmfppdhjpkaaGreatGa12
/- Entries by value: New; the live question of layer 6. -/
namespace Go.Proofs.YtpkkmfppdhjpkaaGreat
set_option linter.unusedVariables false
open Go.RowKit
open Go.Lib (hid)

abbrev newE (c : C7) : Ev := { zE with c := c }
theorem loadGC {ops : Array Oper} {rest : List Oper} {op : Oper} {a : Act} {w : World} {Q : Exit → Act → World → Prop} {x : Operand} {b : Nat} (e : Ev) (hgd : Region.wanted op (yielded ops a.tmps) = true) (ho : op.op = .load 48 x)
    (hx : a.eval x = .pointer (some ⟨b, 0, none⟩)) {T : TypeId} (hc : Ob w b T e) (h : wpList Tryz.prog ops Q rest (a.put op.dst (.agg e.arr)) w) : wpList Tryz.prog ops Q (op :: rest) a w :=
  BigFrame.wpList_want hgd fun _ hK => wp_load_mid 48 x ho b 0 hx e.list _ hc.range Tryz.underlying48 rfl (infoEc e) (hK _ _ h)
theorem loadGR {ops : Array Oper} {rest : List Oper} {op : Oper} {a : Act} {w : World} {Q : Exit → Act → World → Prop} {x : Operand} {b : Nat} (e : Ev) (hgd : Region.wanted op (yielded ops a.tmps) = true) (ho : op.op = .load 44 x)
    (hx : a.eval x = .pointer (some ⟨b, 0, none⟩)) {T : TypeId} (hc : Ob w b T e) (h : wpList Tryz.prog ops Q rest (a.put op.dst (.agg e.arr)) w) : wpList Tryz.prog ops Q (op :: rest) a w :=
  BigFrame.wpList_want hgd fun _ hK => wp_load_mid 44 x ho b 0 hx e.list _ hc.range Tryz.underlying44 rfl (infoE e) (hK _ _ h)
set_option maxHeartbeats 8000000 in
set_option maxRecDepth 100000 in
theorem cNew {c : C7} {w : World} (hc : c.ok = true) : Calls Tryz.prog 17 #[.agg #[.int .i64 c.i, .int .i64 c.k, .int .i64 c.s, .int .i64 c.t, .int .i64 c.d, .int .i64 c.p, .int .i64 c.q]] w fun x w' => x = .returned (.tuple #[.agg (newE c).arr, .int .i64 0]) ∧ Below w.heap.size w w' := by
  have hO : ∀ (W : World) (u : Value), Sl W u [c] → Calls Tryz.prog 40 #[u] W fun x w' => x = .returned (.bool true) ∧ Below W.heap.size W w' := fun W u hu => by
    have := cRight' hu (by simp)
    simpa [hc] using this
  have HO := hid hO
  clear hO hc
  have HC : Hid (((w.alloc (.cells #[.int .i64 c.i, .int .i64 c.k, .int .i64 c.s, .int .i64 c.t, .int .i64 c.d, .int .i64 c.p, .int .i64 c.q] 39)).alloc zeroEc).heap[w.heap.size]? = some ((.cells #[.int .i64 c.i, .int .i64 c.k, .int .i64 c.s, .int .i64 c.t, .int .i64 c.d, .int .i64 c.p, .int .i64 c.q] 39))) := hid (laid2_0 w (.cells #[.int .i64 c.i, .int .i64 c.k, .int .i64 c.s, .int .i64 c.t, .int .i64 c.d, .int .i64 c.p, .int .i64 c.q] 39) zeroEc)
  have HZ : Hid (Ob ((w.alloc (.cells #[.int .i64 c.i, .int .i64 c.k, .int .i64 c.s, .int .i64 c.t, .int .i64 c.d, .int .i64 c.p, .int .i64 c.q] 39)).alloc zeroEc) (w.heap.size + 1) 48 zE) := hid (laid2_1 w (.cells #[.int .i64 c.i, .int .i64 c.k, .int .i64 c.s, .int .i64 c.t, .int .i64 c.d, .int .i64 c.p, .int .i64 c.q] 39) zeroEc)
  have HW : Hid (Below w.heap.size w ((w.alloc (.cells #[.int .i64 c.i, .int .i64 c.k, .int .i64 c.s, .int .i64 c.t, .int .i64 c.d, .int .i64 c.p, .int .i64 c.q] 39)).alloc zeroEc)) := hid (laid2_b w (.cells #[.int .i64 c.i, .int .i64 c.k, .int .i64 c.s, .int .i64 c.t, .int .i64 c.d, .int .i64 c.p, .int .i64 c.q] 39) zeroEc)
  have tok : Hid (0 = 0) := hid rfl
  go_enter Tryz.func17, Tryz.ntmps17
  go_wp2_with (first
    | (clear tok; (with_reducible refine opaqueW ((w.alloc (.cells #[.int .i64 c.i, .int .i64 c.k, .int .i64 c.s, .int .i64 c.t, .int .i64 c.d, .int .i64 c.p, .int .i64 c.q] 39)).alloc zeroEc) ?_); intro W0 hW; rw [← hW] at HC HZ HW; clear hW; have kC0 : W0.cell? ⟨w.heap.size, 0, none⟩ = some (.int .i64 c.i) := (cellAt' HC.out 0).trans rfl; have kC1 : W0.cell? ⟨w.heap.size, 1, none⟩ = some (.int .i64 c.k) := (cellAt' HC.out 1).trans rfl; have kC2 : W0.cell? ⟨w.heap.size, 2, none⟩ = some (.int .i64 c.s) := (cellAt' HC.out 2).trans rfl; have kC3 : W0.cell? ⟨w.heap.size, 3, none⟩ = some (.int .i64 c.t) := (cellAt' HC.out 3).trans rfl; have kC4 : W0.cell? ⟨w.heap.size, 4, none⟩ = some (.int .i64 c.d) := (cellAt' HC.out 4).trans rfl; have kC5 : W0.cell? ⟨w.heap.size, 5, none⟩ = some (.int .i64 c.p) := (cellAt' HC.out 5).trans rfl; have kC6 : W0.cell? ⟨w.heap.size, 6, none⟩ = some (.int .i64 c.q) := (cellAt' HC.out 6).trans rfl)
    | fail)
  go_at_call 40
  refine (HO.out _ _ (Sl.madeC (c := c) rfl)).mono ?_
  rintro x w1 ⟨rfl, hB⟩
  have GC : Hid (w1.heap[w.heap.size]? = some ((.cells #[.int .i64 c.i, .int .i64 c.k, .int .i64 c.s, .int .i64 c.t, .int .i64 c.d, .int .i64 c.p, .int .i64 c.q] 39))) := hid (heapB ((obAlloc HC.out)) hB (Array.getElem?_eq_some_iff.1 ((obAlloc HC.out))).1)
  have GZ : Hid (Ob w1 (w.heap.size + 1) 48 zE) := hid (heapB ((obAlloc HZ.out)) hB (Array.getElem?_eq_some_iff.1 ((obAlloc HZ.out))).1)
  have GW := hid (((HW.out.alloc HW.out.size _)).trans (hB.mono ((HW.out.alloc HW.out.size _)).size))
  clear kC0 kC1 kC2 kC3 kC4 kC5 kC6
  clear hB HC HZ HW
  have HC := GC; clear GC
  have HZ := GZ; clear GZ
  have HW := GW; clear GW
  have kC0 : w1.cell? ⟨w.heap.size, 0, none⟩ = some (.int .i64 c.i) := (cellAt' HC.out 0).trans rfl
  have kC1 : w1.cell? ⟨w.heap.size, 1, none⟩ = some (.int .i64 c.k) := (cellAt' HC.out 1).trans rfl
  have kC2 : w1.cell? ⟨w.heap.size, 2, none⟩ = some (.int .i64 c.s) := (cellAt' HC.out 2).trans rfl
  have kC3 : w1.cell? ⟨w.heap.size, 3, none⟩ = some (.int .i64 c.t) := (cellAt' HC.out 3).trans rfl
  have kC4 : w1.cell? ⟨w.heap.size, 4, none⟩ = some (.int .i64 c.d) := (cellAt' HC.out 4).trans rfl
  have kC5 : w1.cell? ⟨w.heap.size, 5, none⟩ = some (.int .i64 c.p) := (cellAt' HC.out 5).trans rfl
  have kC6 : w1.cell? ⟨w.heap.size, 6, none⟩ = some (.int .i64 c.q) := (cellAt' HC.out 6).trans rfl
  go_wp2_with (first
    | ((with_reducible refine storeC (x := ?sx1) (y := ?sy1) (b := ?sb1) (T := 48) (newE c) ?sg1 ?so1 ?sxx1 ?syy1 ?sc1 ?sh1); (case sg1 => rfl); (case so1 => rfl); (case sxx1 => rfl); (case syy1 => rfl); (case sc1 => exact Ob.room HZ.out); intro W9 hO hU; have GZ := hid hO; have GC : Hid (W9.heap[w.heap.size]? = some ((.cells #[.int .i64 c.i, .int .i64 c.k, .int .i64 c.s, .int .i64 c.t, .int .i64 c.d, .int .i64 c.p, .int .i64 c.q] 39))) := hid (hU.ob (HC.out) (by omega)); have GW := hid ((HW.out).trans (hU.below _ (by first | exact Nat.le_refl _ | omega))); clear hO hU; clear kC0 kC1 kC2 kC3 kC4 kC5 kC6; clear HC HZ HW; have HC := GC; clear GC; have HZ := GZ; clear GZ; have HW := GW; clear GW))
  refine bodyPost_ret (ret_cell_tmp rfl rfl rfl (HZ.out).range Tryz.underlying48 rfl (infoEc (newE c))) rfl ⟨rfl, HW.out⟩

abbrev aC : C7 := ⟨16, 1, 0, 17, 0, 0, 0⟩
abbrev nS : Sv := ⟨none, 0, 0⟩
abbrev aE1 : Ev := { newE aC with lo := 33, hi := 33, ft := 33 }
abbrev aE2 : Ev := { aE1 with pr := 5, hi := 48, ab := 5, xt := 48 }
theorem nilS (W : World) : Sl W nS.v [] := (Own.nil W 0).sl
theorem a_prom (W : World) : Calls Tryz.prog 18 #[.agg aE2.arr, .int .i64 4] W fun x w' => x = .returned (.tuple #[.agg aE2.arr, .int .i64 11]) ∧ Below W.heap.size W w' := cPromise aE2 4 W
theorem a_new (W : World) : Calls Tryz.prog 17 #[.agg #[.int .i64 16, .int .i64 1, .int .i64 0, .int .i64 17, .int .i64 0, .int .i64 0, .int .i64 0]] W fun x w' => x = .returned (.tuple #[.agg (newE aC).arr, .int .i64 0]) ∧ Below W.heap.size W w' := cNew (c := aC) (by decide)

end Go.Proofs.YtpkkmfppdhjpkaaGreat
