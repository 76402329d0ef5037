import Derived.Test.YtlehcaacfgocaaaGreatG14
import Derived.Test.YtlehcaacfgocaaaGreatG12
import Derived.Test.YtlehcaacfgocaaaGreatG06
namespace Go.Proofs.YtlehcaacfgocaaaGreat
set_option linter.unusedVariables false
open Go.RowKit
open Go.Lib (hid)
set_option maxHeartbeats 1000000 in
set_option maxRecDepth 100000 in
theorem cStands {v : Value} {cs : List C7} {w : World} (h : Sl w v cs) (hl : cs.length ≤ 100000) (id : Int) : Calls Tryz.prog 175 #[v, .int .i64 id] w fun e w' => e = .returned (.bool (foundB cs id)) ∧ Below w.heap.size w w' := by
  have hF := cFind h hl id
  generalize foundC cs id = d at hF
  generalize foundB cs id = r at hF ⊢
  clear h
  go_enter Tryz.func175, Tryz.ntmps175
  go_wp2_with fail
  go_at_call 192
  refine hF.mono ?_
  rintro e w1 ⟨rfl, hB⟩
  have HB := hid (hB.trans (((Below.refl _ w1).alloc (Nat.le_refl _) (.cells #[.int .i64 d.i, .int .i64 d.k, .int .i64 d.s, .int .i64 d.t, .int .i64 d.d, .int .i64 d.p, .int .i64 d.q] 45)).mono hB.size))
  clear hB
  go_wp2_with fail
  go_ret
  exact ⟨rfl, HB.out⟩
abbrev Cap (W : World) (q : Nat) (v : Value) : Prop := W.cell? ⟨q, 0, none⟩ = some v
theorem capOn {W W' : World} {q B : Nat} {v : Value} (h : Cap W q v) (hb : Below B W W') (hq : q < B) : Cap W' q v := (hb.cell (p := ⟨q, 0, none⟩) hq).trans h
set_option maxHeartbeats 1000000 in
theorem cPred1 {w : World} {q : Nat} {t : Int} (e : Ev) (hq : Cap w q (.int .i64 t)) (hl : q < w.heap.size) : Calls Tryz.prog 152 #[.agg e.arr, ptr q] w fun r w' => r = .returned (.bool (aheadE e t)) ∧ Below w.heap.size w w' := by
  have HX : Hid (Ob (w.alloc (.cells e.arr 67)) w.heap.size 67 e) := hid (heap_alloc_new w _)
  have HW : Hid (Below w.heap.size w (w.alloc (.cells e.arr 67))) := hid ((Below.refl _ w).alloc (Nat.le_refl _) _)
  have HQ := hid hq
  clear hq
  have hq : (w.alloc (.cells e.arr 67)).cell? ⟨q, 0, none⟩ = some (.int .i64 t) := capOn HQ.out HW.out hl
  have hC := cAheadE e t (w.alloc (.cells e.arr 67))
  generalize aheadE e t = r at hC ⊢
  go_enter Tryz.func152, Tryz.ntmps152
  go_wp2_with (first
    | ((with_reducible refine loadC (x := ?cx2) (b := w.heap.size) (T := 67) e ?cg2 ?co2 ?cxx2 ?cc2 ?_); (case cg2 => rfl); (case co2 => rfl); (case cxx2 => rfl); (case cc2 => exact HX.out))
    | (go_at_call 153; refine hC.mono ?_; rintro z w1 ⟨rfl, hB⟩; have HB := hid (HW.out.trans (hB.mono HW.out.size)); clear hB)
    | fail)
  go_ret
  exact ⟨rfl, HB.out⟩
set_option maxHeartbeats 1000000 in
theorem cHolders1 {w : World} {q : Nat} {t : Int} (e : Ev) (hq : Cap w q (.int .i64 t)) (hl : q < w.heap.size) : Calls Tryz.prog 177 #[.agg e.arr, ptr q] w fun r w' => r = .returned (.bool (holdsE e t)) ∧ Below w.heap.size w w' := by
  have HX : Hid (Ob (w.alloc (.cells e.arr 67)) w.heap.size 67 e) := hid (heap_alloc_new w _)
  have HW : Hid (Below w.heap.size w (w.alloc (.cells e.arr 67))) := hid ((Below.refl _ w).alloc (Nat.le_refl _) _)
  have HQ := hid hq
  clear hq
  have hq : (w.alloc (.cells e.arr 67)).cell? ⟨q, 0, none⟩ = some (.int .i64 t) := capOn HQ.out HW.out hl
  have hC := cHoldsE e t (w.alloc (.cells e.arr 67))
  generalize holdsE e t = r at hC ⊢
  go_enter Tryz.func177, Tryz.ntmps177
  go_wp2_with (first
    | ((with_reducible refine loadC (x := ?cx2) (b := w.heap.size) (T := 67) e ?cg2 ?co2 ?cxx2 ?cc2 ?_); (case cg2 => rfl); (case co2 => rfl); (case cxx2 => rfl); (case cc2 => exact HX.out))
    | (go_at_call 178; refine hC.mono ?_; rintro z w1 ⟨rfl, hB⟩; have HB := hid (HW.out.trans (hB.mono HW.out.size)); clear hB)
    | fail)
  go_ret
  exact ⟨rfl, HB.out⟩
def killB (t i : Int) (y : En) : Bool := y.e.dn && (decide (t < y.e.vt) && !foundB y.v i)
set_option maxHeartbeats 1000000 in
set_option maxRecDepth 100000 in
theorem cKillers1 {w : World} {q q2 : Nat} {t i : Int} (y : En) (hy : y.at w) (hs : y.short 1024) (hq : Cap w q (.int .i64 t)) (hl : q < w.heap.size) (hq2 : Cap w q2 (.int .i64 i)) (hl2 : q2 < w.heap.size) : Calls Tryz.prog 174 #[.agg y.e.arr, ptr q, ptr q2] w fun r w' => r = .returned (.bool (killB t i y)) ∧ Below w.heap.size w w' := by
  have HX : Hid (Ob (w.alloc (.cells y.e.arr 67)) w.heap.size 67 y.e) := hid (heap_alloc_new w _)
  have HW : Hid (Below w.heap.size w (w.alloc (.cells y.e.arr 67))) := hid ((Below.refl _ w).alloc (Nat.le_refl _) _)
  have HQ := hid hq
  have HQ2 := hid hq2
  have HY := hid hy
  obtain ⟨dn, hdn⟩ : ∃ d, d = y.e.dn := ⟨_, rfl⟩
  obtain ⟨fb, hfb⟩ : ∃ d, d = foundB y.v i := ⟨_, rfl⟩
  have HK := hid (show killB t i y = (dn && (decide (t < y.e.vt) && !fb)) by rw [hdn, hfb]; rfl)
  have hS := cStands ((HY.out.on HW.out).2.2) (by have := hs.2.2; omega) i
  rw [← hfb] at hS
  rw [HK.out]
  clear hq hq2 hy hfb
  have d1 : (w.alloc (.cells y.e.arr 67)).cell? ⟨w.heap.size, 16, none⟩ = some (.bool dn) := by rw [hdn]; exact HX.out.cell (j := 16) rfl
  have d2 : (w.alloc (.cells y.e.arr 67)).cell? ⟨w.heap.size, 17, none⟩ = some (.int .i64 y.e.vt) := HX.out.cell (j := 17) rfl
  have d3 : (w.alloc (.cells y.e.arr 67)).cell? ⟨w.heap.size, 18, none⟩ = some y.e.vp.v := HX.out.cell (j := 18) rfl
  generalize y.e.vp.v = vp at hS d3
  generalize y.e.vt = vt at d2 ⊢
  clear hdn HK
  have hvt : t < vt ∨ ¬ t < vt := by omega
  have hq : (w.alloc (.cells y.e.arr 67)).cell? ⟨q, 0, none⟩ = some (.int .i64 t) := capOn HQ.out HW.out hl
  have hq2 : (w.alloc (.cells y.e.arr 67)).cell? ⟨q2, 0, none⟩ = some (.int .i64 i) := capOn HQ2.out HW.out hl2
  rcases dn with _ | _
  · go_enter Tryz.func174, Tryz.ntmps174
    go_wp2_with fail
    go_ret
    exact ⟨rfl, HW.out⟩
  · rcases hvt with hvt | hvt
    · rw [show (decide (t < vt)) = true from decide_eq_true hvt]
      go_enter Tryz.func174, Tryz.ntmps174
      go_wp2_with (first
        | (go_at_call 175; refine hS.mono ?_; rintro z w1 ⟨rfl, hB⟩; have HB := hid (HW.out.trans (hB.mono HW.out.size)); clear hB)
        | fail)
      go_ret
      exact ⟨by cases fb <;> rfl, HB.out⟩
    · rw [show (decide (t < vt)) = false from decide_eq_false hvt]
      go_enter Tryz.func174, Tryz.ntmps174
      go_wp2_with fail
      go_ret
      exact ⟨rfl, HW.out⟩
def absB (t : Int) (ps : List C7) (d : Bool) (y : En) : Bool := (y.e.dn == d) && (aheadE y.e t && !foundB ps y.id)
set_option maxHeartbeats 1000000 in
set_option maxRecDepth 100000 in
theorem cAbsent1 {w : World} {qd q qp : Nat} {t : Int} {d : Bool} {pv : Value} {ps : List C7} (y : En) (hp : Sl w pv ps) (hps : ps.length ≤ 1024) (hd : Cap w qd (.bool d)) (hdl : qd < w.heap.size) (hq : Cap w q (.int .i64 t)) (hl : q < w.heap.size) (hqp : Cap w qp pv) (hpl : qp < w.heap.size) : Calls Tryz.prog 176 #[.agg y.e.arr, ptr qd, ptr q, ptr qp] w fun r w' => r = .returned (.bool (absB t ps d y)) ∧ Below w.heap.size w w' := by
  have HX : Hid (Ob (w.alloc (.cells y.e.arr 67)) w.heap.size 67 y.e) := hid (heap_alloc_new w _)
  have HW : Hid (Below w.heap.size w (w.alloc (.cells y.e.arr 67))) := hid ((Below.refl _ w).alloc (Nat.le_refl _) _)
  have HQ := hid hq
  have HD := hid hd
  have HP := hid hqp
  have HS := hid hp
  obtain ⟨dn, hdn⟩ : ∃ d, d = y.e.dn := ⟨_, rfl⟩
  obtain ⟨fb, hfb⟩ : ∃ d, d = foundB ps y.id := ⟨_, rfl⟩
  have hA := fun W => cAheadE y.e t W
  have HF := hid (fun W (hW : Below w.heap.size w W) => cStands (HS.out.on hW) (by omega) y.id)
  rw [← hfb] at HF
  have HK := hid (show absB t ps d y = ((dn == d) && (aheadE y.e t && !fb)) by rw [hdn, hfb]; rfl)
  rw [HK.out]
  generalize aheadE y.e t = ab at hA ⊢
  clear hq hd hqp hp hfb HK
  have d1 : (w.alloc (.cells y.e.arr 67)).cell? ⟨w.heap.size, 16, none⟩ = some (.bool dn) := by rw [hdn]; exact HX.out.cell (j := 16) rfl
  clear hdn
  have hd : (w.alloc (.cells y.e.arr 67)).cell? ⟨qd, 0, none⟩ = some (.bool d) := capOn HD.out HW.out hdl
  have hq : (w.alloc (.cells y.e.arr 67)).cell? ⟨q, 0, none⟩ = some (.int .i64 t) := capOn HQ.out HW.out hl
  by_cases he : dn = d
  · subst he
    rw [show (dn == dn) = true from by cases dn <;> rfl]
    rcases ab with _ | _
    · rcases dn with _ | _ <;> (
      go_enter Tryz.func176, Tryz.ntmps176
      go_wp2_with (first
        | ((with_reducible refine loadGC (x := ?cx2) (b := w.heap.size) (T := 67) y.e ?cg2 ?co2 ?cxx2 ?cc2 ?_); (case cg2 => rfl); (case co2 => rfl); (case cxx2 => rfl); (case cc2 => exact HX.out))
        | (go_at_call 153; refine (hA _).mono ?_; rintro z w1 ⟨rfl, hB⟩; have HB := hid (HW.out.trans (hB.mono HW.out.size)); clear hB)
        | fail)
      go_ret
      exact ⟨rfl, HB.out⟩)
    · rcases dn with _ | _ <;> (
      go_enter Tryz.func176, Tryz.ntmps176
      go_wp2_with (first
        | ((with_reducible refine loadGC (x := ?cx2) (b := w.heap.size) (T := 67) y.e ?cg2 ?co2 ?cxx2 ?cc2 ?_); (case cg2 => rfl); (case co2 => rfl); (case cxx2 => rfl); (case cc2 => exact HX.out))
        | (go_at_call 153; refine (hA _).mono ?_; rintro z w1 ⟨rfl, hB⟩; have HB := hid (HW.out.trans (hB.mono HW.out.size)); have hF := HF.out w1 HB.out; have hp1 : w1.cell? ⟨qp, 0, none⟩ = some pv := capOn HP.out HB.out hpl; have hi1 : w1.cell? ⟨w.heap.size, 0, none⟩ = some (.int .i64 y.e.c.i) := (cellAt' (heapB HX.out hB (Array.getElem?_eq_some_iff.1 HX.out).1) 0).trans rfl; clear hB)
        | (go_at_call 175; refine hF.mono ?_; rintro z w2 ⟨rfl, hB⟩; have HB2 := hid (HB.out.trans (hB.mono HB.out.size)); clear hB)
        | fail)
      go_ret
      exact ⟨by cases fb <;> rfl, HB2.out⟩)
  · have he2 : (dn == d) = false := by cases dn <;> cases d <;> simp_all
    rw [he2]
    rcases dn with _ | _ <;> rcases d with _ | _ <;> first | (exfalso; exact he rfl) | (
      go_enter Tryz.func176, Tryz.ntmps176
      go_wp2_with fail
      go_ret
      exact ⟨rfl, HW.out⟩)
end Go.Proofs.YtlehcaacfgocaaaGreat
namespace Go.Proofs.YtlehcaacfgocaaaGreat
set_option linter.unusedVariables false
open Go.RowKit
open Go.Lib (hid)
set_option maxHeartbeats 2000000 in
set_option maxRecDepth 100000 in
theorem cHolders {w : World} {x b b2 n : Nat} {nd c0 : Int} {xs : List En} {ids : List Int} (h : Ix w x b b2 n nd c0 xs ids) (hn : n ≤ 20000) (hlx : xs.length ≤ 20000) (hA : AllAt w xs) (hs : ∀ y ∈ xs, y.short 1024) (c : C7) (t : Int) : Calls Tryz.prog 146 #[ptr x, c.v, .int .i64 t] w fun e w' => ∃ v, e = .returned v ∧ OwnI w' w.heap.size v (idsL (touchL xs c (fun y => holdsE y.e t))) ∧ Below w.heap.size w w' := by
  have HW : Hid (Below w.heap.size w ((w.alloc (.cells #[.int .i64 c.i, .int .i64 c.k, .int .i64 c.s, .int .i64 c.t, .int .i64 c.d, .int .i64 c.p, .int .i64 c.q] 45)).alloc (.cells #[.int .i64 t] 3))) := hid (laid2_b w (.cells #[.int .i64 c.i, .int .i64 c.k, .int .i64 c.s, .int .i64 c.t, .int .i64 c.d, .int .i64 c.p, .int .i64 c.q] 45) (.cells #[.int .i64 t] 3))
  have HB0 : Hid (((w.alloc (.cells #[.int .i64 c.i, .int .i64 c.k, .int .i64 c.s, .int .i64 c.t, .int .i64 c.d, .int .i64 c.p, .int .i64 c.q] 45)).alloc (.cells #[.int .i64 t] 3)).heap[w.heap.size]? = some (.cells #[.int .i64 c.i, .int .i64 c.k, .int .i64 c.s, .int .i64 c.t, .int .i64 c.d, .int .i64 c.p, .int .i64 c.q] 45)) := hid (laid2_0 w (.cells #[.int .i64 c.i, .int .i64 c.k, .int .i64 c.s, .int .i64 c.t, .int .i64 c.d, .int .i64 c.p, .int .i64 c.q] 45) (.cells #[.int .i64 t] 3))
  have HB1 : Hid (((w.alloc (.cells #[.int .i64 c.i, .int .i64 c.k, .int .i64 c.s, .int .i64 c.t, .int .i64 c.d, .int .i64 c.p, .int .i64 c.q] 45)).alloc (.cells #[.int .i64 t] 3)).heap[w.heap.size + 1]? = some (.cells #[.int .i64 t] 3)) := hid (laid2_1 w (.cells #[.int .i64 c.i, .int .i64 c.k, .int .i64 c.s, .int .i64 c.t, .int .i64 c.d, .int .i64 c.p, .int .i64 c.q] 45) (.cells #[.int .i64 t] 3))
  have HJ := hid (h.on HW.out)
  have HA := hid (fun y (hy : y ∈ xs) => (hA y hy).on HW.out)
  have hsz : ((w.alloc (.cells #[.int .i64 c.i, .int .i64 c.k, .int .i64 c.s, .int .i64 c.t, .int .i64 c.d, .int .i64 c.p, .int .i64 c.q] 45)).alloc (.cells #[.int .i64 t] 3)).heap.size = w.heap.size + 2 := by simp
  have HSZ := hid hsz
  have hT := cTouching (lb := #[ptr (w.heap.size + 1)]) (P := fun y => holdsE y.e t) HJ.out hn c (enters_of Tryz.func177 (by kernel_rfl) rfl) fun W y hy hW => by
    exact cHolders1 y.e (capOn (v := _) ((cellAt' HB1.out 0).trans rfl) hW (by have := HSZ.out; omega)) (by have := hW.size; have := HSZ.out; omega)
  have HT := hid hT
  have d0 := (cellAt' HB0.out 0).trans (show _ = some (Value.int .i64 c.i) from rfl)
  have d1 := (cellAt' HB0.out 1).trans (show _ = some (Value.int .i64 c.k) from rfl)
  have d2 := (cellAt' HB0.out 2).trans (show _ = some (Value.int .i64 c.s) from rfl)
  have d3 := (cellAt' HB0.out 3).trans (show _ = some (Value.int .i64 c.t) from rfl)
  have d4 := (cellAt' HB0.out 4).trans (show _ = some (Value.int .i64 c.d) from rfl)
  have d5 := (cellAt' HB0.out 5).trans (show _ = some (Value.int .i64 c.p) from rfl)
  have d6 := (cellAt' HB0.out 6).trans (show _ = some (Value.int .i64 c.q) from rfl)
  clear h hA hsz hT
  go_enter Tryz.func146, Tryz.ntmps146
  go_wp2_with fail
  go_at_call 151
  refine HT.out.mono ?_
  rintro e w1 ⟨v, rfl, hv, hB⟩
  have HV := hid hv
  have HB := hid (HW.out.trans (hB.mono (by have := HSZ.out; omega)))
  have hI := cIds hv (by have := touch_len xs c (fun y => holdsE y.e t); omega)
  clear hv hB
  go_wp2_with fail
  go_at_call 173
  refine hI.mono ?_
  rintro e w2 ⟨r, rfl, hr, hB2⟩
  have HR := hid hr
  have HB2 := hid (HB.out.trans (hB2.mono HB.out.size))
  have HQ := hid HB.out.size
  clear hr hB2 hI
  go_wp2_with fail
  go_ret
  exact ⟨r, rfl, own_monoB HR.out HQ.out, HB2.out⟩
set_option maxHeartbeats 2000000 in
set_option maxRecDepth 100000 in
theorem cKillers {w : World} {x b b2 n : Nat} {nd c0 : Int} {xs : List En} {ids : List Int} (h : Ix w x b b2 n nd c0 xs ids) (hn : n ≤ 20000) (hlx : xs.length ≤ 20000) (hA : AllAt w xs) (hs : ∀ y ∈ xs, y.short 1024) (c : C7) (t : Int) : Calls Tryz.prog 143 #[ptr x, c.v, .int .i64 t] w fun e w' => ∃ v, e = .returned v ∧ OwnI w' w.heap.size v (idsL (touchL xs c (killB t c.i))) ∧ Below w.heap.size w w' := by
  have HW : Hid (Below w.heap.size w ((w.alloc (.cells #[.int .i64 c.i, .int .i64 c.k, .int .i64 c.s, .int .i64 c.t, .int .i64 c.d, .int .i64 c.p, .int .i64 c.q] 45)).alloc (.cells #[.int .i64 t] 3))) := hid (laid2_b w (.cells #[.int .i64 c.i, .int .i64 c.k, .int .i64 c.s, .int .i64 c.t, .int .i64 c.d, .int .i64 c.p, .int .i64 c.q] 45) (.cells #[.int .i64 t] 3))
  have HB0 : Hid (((w.alloc (.cells #[.int .i64 c.i, .int .i64 c.k, .int .i64 c.s, .int .i64 c.t, .int .i64 c.d, .int .i64 c.p, .int .i64 c.q] 45)).alloc (.cells #[.int .i64 t] 3)).heap[w.heap.size]? = some (.cells #[.int .i64 c.i, .int .i64 c.k, .int .i64 c.s, .int .i64 c.t, .int .i64 c.d, .int .i64 c.p, .int .i64 c.q] 45)) := hid (laid2_0 w (.cells #[.int .i64 c.i, .int .i64 c.k, .int .i64 c.s, .int .i64 c.t, .int .i64 c.d, .int .i64 c.p, .int .i64 c.q] 45) (.cells #[.int .i64 t] 3))
  have HB1 : Hid (((w.alloc (.cells #[.int .i64 c.i, .int .i64 c.k, .int .i64 c.s, .int .i64 c.t, .int .i64 c.d, .int .i64 c.p, .int .i64 c.q] 45)).alloc (.cells #[.int .i64 t] 3)).heap[w.heap.size + 1]? = some (.cells #[.int .i64 t] 3)) := hid (laid2_1 w (.cells #[.int .i64 c.i, .int .i64 c.k, .int .i64 c.s, .int .i64 c.t, .int .i64 c.d, .int .i64 c.p, .int .i64 c.q] 45) (.cells #[.int .i64 t] 3))
  have HJ := hid (h.on HW.out)
  have HA := hid (fun y (hy : y ∈ xs) => (hA y hy).on HW.out)
  have hsz : ((w.alloc (.cells #[.int .i64 c.i, .int .i64 c.k, .int .i64 c.s, .int .i64 c.t, .int .i64 c.d, .int .i64 c.p, .int .i64 c.q] 45)).alloc (.cells #[.int .i64 t] 3)).heap.size = w.heap.size + 2 := by simp
  have HSZ := hid hsz
  have hT := cTouching (lb := #[ptr (w.heap.size + 1), ptr (w.heap.size)]) (P := killB t c.i) HJ.out hn c (enters_of Tryz.func174 (by kernel_rfl) rfl) fun W y hy hW => by
    obtain ⟨k1, k2⟩ := look_key En.id xs _ y hy
    exact cKillers1 y ((HA.out y k2).on hW) (hs y k2) (capOn (v := _) ((cellAt' HB1.out 0).trans rfl) hW (by have := HSZ.out; omega)) (by have := hW.size; have := HSZ.out; omega) (capOn (v := _) ((cellAt' HB0.out 0).trans rfl) hW (by have := HSZ.out; omega)) (by have := hW.size; have := HSZ.out; omega)
  have HT := hid hT
  have d0 := (cellAt' HB0.out 0).trans (show _ = some (Value.int .i64 c.i) from rfl)
  have d1 := (cellAt' HB0.out 1).trans (show _ = some (Value.int .i64 c.k) from rfl)
  have d2 := (cellAt' HB0.out 2).trans (show _ = some (Value.int .i64 c.s) from rfl)
  have d3 := (cellAt' HB0.out 3).trans (show _ = some (Value.int .i64 c.t) from rfl)
  have d4 := (cellAt' HB0.out 4).trans (show _ = some (Value.int .i64 c.d) from rfl)
  have d5 := (cellAt' HB0.out 5).trans (show _ = some (Value.int .i64 c.p) from rfl)
  have d6 := (cellAt' HB0.out 6).trans (show _ = some (Value.int .i64 c.q) from rfl)
  clear h hA hsz hT
  go_enter Tryz.func143, Tryz.ntmps143
  go_wp2_with fail
  go_at_call 151
  refine HT.out.mono ?_
  rintro e w1 ⟨v, rfl, hv, hB⟩
  have HV := hid hv
  have HB := hid (HW.out.trans (hB.mono (by have := HSZ.out; omega)))
  have hI := cIds hv (by have := touch_len xs c (killB t c.i); omega)
  clear hv hB
  go_wp2_with fail
  go_at_call 173
  refine hI.mono ?_
  rintro e w2 ⟨r, rfl, hr, hB2⟩
  have HR := hid hr
  have HB2 := hid (HB.out.trans (hB2.mono HB.out.size))
  have HQ := hid HB.out.size
  clear hr hB2 hI
  go_wp2_with fail
  go_ret
  exact ⟨r, rfl, own_monoB HR.out HQ.out, HB2.out⟩
set_option maxHeartbeats 2000000 in
set_option maxRecDepth 100000 in
theorem cAbsent {w : World} {x b b2 n : Nat} {nd c0 : Int} {xs : List En} {ids : List Int} (h : Ix w x b b2 n nd c0 xs ids) (hn : n ≤ 20000) (hlx : xs.length ≤ 20000) (hA : AllAt w xs) (hs : ∀ y ∈ xs, y.short 1024) (c : C7) (t : Int) {pa : Option Addr} {pn pc : Nat} {ps : List C7} (hp : Sl w (.slice pa pn pc) ps) (hps : ps.length ≤ 1024) (d : Bool) : Calls Tryz.prog 144 #[ptr x, c.v, .int .i64 t, .slice pa pn pc, .bool d] w fun e w' => ∃ v, e = .returned v ∧ OwnI w' w.heap.size v (idsL (touchL xs c (absB t ps d))) ∧ Below w.heap.size w w' := by
  have HW : Hid (Below w.heap.size w ((((w.alloc (.cells #[.int .i64 c.i, .int .i64 c.k, .int .i64 c.s, .int .i64 c.t, .int .i64 c.d, .int .i64 c.p, .int .i64 c.q] 45)).alloc (.cells #[.int .i64 t] 3)).alloc (.cells #[.slice pa pn pc] 46)).alloc (.cells #[.bool d] 4))) := hid (laid4_b w (.cells #[.int .i64 c.i, .int .i64 c.k, .int .i64 c.s, .int .i64 c.t, .int .i64 c.d, .int .i64 c.p, .int .i64 c.q] 45) (.cells #[.int .i64 t] 3) (.cells #[.slice pa pn pc] 46) (.cells #[.bool d] 4))
  have HB0 : Hid (((((w.alloc (.cells #[.int .i64 c.i, .int .i64 c.k, .int .i64 c.s, .int .i64 c.t, .int .i64 c.d, .int .i64 c.p, .int .i64 c.q] 45)).alloc (.cells #[.int .i64 t] 3)).alloc (.cells #[.slice pa pn pc] 46)).alloc (.cells #[.bool d] 4)).heap[w.heap.size]? = some (.cells #[.int .i64 c.i, .int .i64 c.k, .int .i64 c.s, .int .i64 c.t, .int .i64 c.d, .int .i64 c.p, .int .i64 c.q] 45)) := hid (laid4_0 w (.cells #[.int .i64 c.i, .int .i64 c.k, .int .i64 c.s, .int .i64 c.t, .int .i64 c.d, .int .i64 c.p, .int .i64 c.q] 45) (.cells #[.int .i64 t] 3) (.cells #[.slice pa pn pc] 46) (.cells #[.bool d] 4))
  have HB1 : Hid (((((w.alloc (.cells #[.int .i64 c.i, .int .i64 c.k, .int .i64 c.s, .int .i64 c.t, .int .i64 c.d, .int .i64 c.p, .int .i64 c.q] 45)).alloc (.cells #[.int .i64 t] 3)).alloc (.cells #[.slice pa pn pc] 46)).alloc (.cells #[.bool d] 4)).heap[w.heap.size + 1]? = some (.cells #[.int .i64 t] 3)) := hid (laid4_1 w (.cells #[.int .i64 c.i, .int .i64 c.k, .int .i64 c.s, .int .i64 c.t, .int .i64 c.d, .int .i64 c.p, .int .i64 c.q] 45) (.cells #[.int .i64 t] 3) (.cells #[.slice pa pn pc] 46) (.cells #[.bool d] 4))
  have HB2 : Hid (((((w.alloc (.cells #[.int .i64 c.i, .int .i64 c.k, .int .i64 c.s, .int .i64 c.t, .int .i64 c.d, .int .i64 c.p, .int .i64 c.q] 45)).alloc (.cells #[.int .i64 t] 3)).alloc (.cells #[.slice pa pn pc] 46)).alloc (.cells #[.bool d] 4)).heap[w.heap.size + 2]? = some (.cells #[.slice pa pn pc] 46)) := hid (laid4_2 w (.cells #[.int .i64 c.i, .int .i64 c.k, .int .i64 c.s, .int .i64 c.t, .int .i64 c.d, .int .i64 c.p, .int .i64 c.q] 45) (.cells #[.int .i64 t] 3) (.cells #[.slice pa pn pc] 46) (.cells #[.bool d] 4))
  have HB3 : Hid (((((w.alloc (.cells #[.int .i64 c.i, .int .i64 c.k, .int .i64 c.s, .int .i64 c.t, .int .i64 c.d, .int .i64 c.p, .int .i64 c.q] 45)).alloc (.cells #[.int .i64 t] 3)).alloc (.cells #[.slice pa pn pc] 46)).alloc (.cells #[.bool d] 4)).heap[w.heap.size + 3]? = some (.cells #[.bool d] 4)) := hid (laid4_3 w (.cells #[.int .i64 c.i, .int .i64 c.k, .int .i64 c.s, .int .i64 c.t, .int .i64 c.d, .int .i64 c.p, .int .i64 c.q] 45) (.cells #[.int .i64 t] 3) (.cells #[.slice pa pn pc] 46) (.cells #[.bool d] 4))
  have HJ := hid (h.on HW.out)
  have HA := hid (fun y (hy : y ∈ xs) => (hA y hy).on HW.out)
  have HPS := hid (hp.on HW.out)
  have hsz : ((((w.alloc (.cells #[.int .i64 c.i, .int .i64 c.k, .int .i64 c.s, .int .i64 c.t, .int .i64 c.d, .int .i64 c.p, .int .i64 c.q] 45)).alloc (.cells #[.int .i64 t] 3)).alloc (.cells #[.slice pa pn pc] 46)).alloc (.cells #[.bool d] 4)).heap.size = w.heap.size + 4 := by simp
  have HSZ := hid hsz
  have hT := cTouching (lb := #[ptr (w.heap.size + 3), ptr (w.heap.size + 1), ptr (w.heap.size + 2)]) (P := absB t ps d) HJ.out hn c (enters_of Tryz.func176 (by kernel_rfl) rfl) fun W y hy hW => by
    exact cAbsent1 y (HPS.out.on hW) hps (capOn (v := _) ((cellAt' HB3.out 0).trans rfl) hW (by have := HSZ.out; omega)) (by have := hW.size; have := HSZ.out; omega) (capOn (v := _) ((cellAt' HB1.out 0).trans rfl) hW (by have := HSZ.out; omega)) (by have := hW.size; have := HSZ.out; omega) (capOn (v := _) ((cellAt' HB2.out 0).trans rfl) hW (by have := HSZ.out; omega)) (by have := hW.size; have := HSZ.out; omega)
  have HT := hid hT
  have d0 := (cellAt' HB0.out 0).trans (show _ = some (Value.int .i64 c.i) from rfl)
  have d1 := (cellAt' HB0.out 1).trans (show _ = some (Value.int .i64 c.k) from rfl)
  have d2 := (cellAt' HB0.out 2).trans (show _ = some (Value.int .i64 c.s) from rfl)
  have d3 := (cellAt' HB0.out 3).trans (show _ = some (Value.int .i64 c.t) from rfl)
  have d4 := (cellAt' HB0.out 4).trans (show _ = some (Value.int .i64 c.d) from rfl)
  have d5 := (cellAt' HB0.out 5).trans (show _ = some (Value.int .i64 c.p) from rfl)
  have d6 := (cellAt' HB0.out 6).trans (show _ = some (Value.int .i64 c.q) from rfl)
  clear h hA hsz hT
  go_enter Tryz.func144, Tryz.ntmps144
  go_wp2_with fail
  go_at_call 151
  refine HT.out.mono ?_
  rintro e w1 ⟨v, rfl, hv, hB⟩
  have HV := hid hv
  have HB := hid (HW.out.trans (hB.mono (by have := HSZ.out; omega)))
  have hI := cIds hv (by have := touch_len xs c (absB t ps d); omega)
  clear hv hB
  go_wp2_with fail
  go_at_call 173
  refine hI.mono ?_
  rintro e w2 ⟨r, rfl, hr, hB2⟩
  have HR := hid hr
  have HB2 := hid (HB.out.trans (hB2.mono HB.out.size))
  have HQ := hid HB.out.size
  clear hr hB2 hI
  go_wp2_with fail
  go_ret
  exact ⟨r, rfl, own_monoB HR.out HQ.out, HB2.out⟩
end Go.Proofs.YtlehcaacfgocaaaGreat
