import Derived.Test.YtlehcaacfgocaaaGreatG20
import Derived.Test.YtlehcaacfgocaaaGreatG17
import Derived.Test.YtlehcaacfgocaaaGreatG03
import Derived.Deep.CutRange
import Derived.Deep.Light
import Derived.Deep.QuietTactic
import Derived.BigQuiet
namespace Go.Proofs.YtlehcaacfgocaaaGreat
set_option linter.unusedVariables false
open Go.RowKit
open Go.Lib (hid)
open Go.Deep (blk_setCell_other nblk_setCell)
theorem rh_consW {P : Program} {md : Region.Mode} {S : World → Prop} {ops : Array Oper} {i : Nat} {o : Oper} {rs : List Nat} {fuel : Nat} {listed listed' : Array Bool} {a : Act} {w : World} {Q : Exit → Act → World → Prop}
    (hi : ops[i]? = some o) (hl : listed.setIfInBounds i true = listed') (hg : Region.wanted o (yielded ops a.tmps) = true) (h : ∀ K' : Act → World → Prop, Shut (∀ a w, S w → wpAnyH P md ops Q S fuel listed' a w → K' a w) → Oper.wp P o a w K' Q) (hs : AllReadyH P md ops Q S fuel listed a w rs) : AllReadyH P md ops Q S fuel listed a w (i :: rs) := by
  subst hl
  refine AllReadyH.cons hi (fun K' hK => ?_) hs
  rw [if_pos hg]
  exact h K' (fun a w h1 h2 => hK.out a w h1 (fun _ => h2))
theorem rh_skip {P : Program} {md : Region.Mode} {S : World → Prop} {ops : Array Oper} {i : Nat} {o : Oper} {fuel : Nat} {listed listed' : Array Bool} {a a' : Act} {w : World} {Q : Exit → Act → World → Prop} (hi : ops[i]? = some o) (hs : Region.noSelect ops = true) (hf : Region.free md ops listed i = true) (hr : (Region.ready md ops listed).contains i = true)
    (hQ : ∀ c a w, Q (.panic c) (a.put o.dst undef) w → Q (.panic c) a w) (hl : listed.setIfInBounds i true = listed') (hw : Region.wanted o (yielded ops a.tmps) = false) (ha : a.put o.dst undef = a') (hS : S w) (h : wpAnyH P md ops Q S fuel listed' a' w) : wpAnyH P md ops Q S (fuel + 1) listed a w := by
  subst hl ha
  exact wpAnyH_take hi hs hf hr hQ (.inr ⟨hw, rfl⟩) hS h
theorem setsMid {q : Nat} {t : TypeId} : ∀ (vs : List Value) (o : Nat) (C : Array Value) (w : World), w.heap[q]? = some (.cells C t (0, 0)) →
    ∃ C', (w.setCells q o vs).heap[q]? = some (.cells C' t (0, 0)) ∧ C'.size = C.size ∧ (∀ j, j < o → C'[j]? = C[j]?) ∧ (∀ j, o + vs.length ≤ j → C'[j]? = C[j]?) ∧ ∀ j, j < vs.length → o + j < C.size → C'[o + j]? = vs[j]?
  | [], o, C, w, h => ⟨C, h, rfl, fun _ _ => rfl, fun _ _ => rfl, fun j hj => absurd hj (by simp)⟩
  | v :: vs, o, C, w, h => by
    obtain ⟨C', h1, h2, h3, h5, h4⟩ := setsMid vs (o + 1) _ (w.setCell ⟨q, o, none⟩ v) (setAt h)
    refine ⟨C', h1, h2.trans (by simp), fun j hj => ?_, fun j hj => ?_, fun j hj hs => ?_⟩
    · rw [h3 j (by omega), Array.getElem?_setIfInBounds]; simp; omega
    · rw [List.length_cons] at hj
      rw [h5 j (by omega), Array.getElem?_setIfInBounds]; simp; omega
    · cases j with
      | zero =>
        rw [Nat.add_zero, h3 o (by omega), Array.getElem?_setIfInBounds]
        simp; omega
      | succ j =>
        have := h4 j (by simp at hj; omega) (by simp; omega)
        rw [show o + (j + 1) = o + 1 + j by omega, this]; rfl
theorem setsUpd' (w : World) (q o : Nat) (vs : List Value) : Upd q w (w.setCells q o vs) := by
  refine ⟨?_, fun k hk hne => World.heap_setCells_other w q o vs hk hne, fun B hB => below_cells hB _ _ _ (Below.refl _ _)⟩
  have : ∀ (vs : List Value) (o : Nat) (w : World), (w.setCells q o vs).heap.size = w.heap.size := by
    intro vs
    induction vs with
    | nil => intro o w; rfl
    | cons v vs ih => intro o w; exact (ih (o + 1) _).trans (nblk_setCell w _ v)
  exact this vs o w
theorem thereAt {W : World} {q o n : Nat} {C : Array Value} {T : TypeId} (h : W.heap[q]? = some (.cells C T (0, 0))) (hn : o + n ≤ C.size) : W.there q o n := fun j hj => by
  refine ⟨?_, frozenAt h (o + j)⟩
  rw [cellAt' h, Array.getElem?_eq_getElem (by omega)]; rfl
theorem setsCmd {w : World} {q : Nat} {m : Mg} (h : OM w q m) (c : C7) : OM (w.setCells q 4 [.int .i64 c.i, .int .i64 c.k, .int .i64 c.s, .int .i64 c.t, .int .i64 c.d, .int .i64 c.p, .int .i64 c.q]) q { m with c := c } := by
  obtain ⟨C', h1, h2, h3, h5, h4⟩ := setsMid [.int .i64 c.i, .int .i64 c.k, .int .i64 c.s, .int .i64 c.t, .int .i64 c.d, .int .i64 c.p, .int .i64 c.q] 4 m.arr w h
  have : C' = ({ m with c := c } : Mg).arr := by
    apply Array.ext_getElem?
    intro j
    by_cases hj : j < 4
    · rw [h3 j hj]
      rcases (by omega : j = 0 ∨ j = 1 ∨ j = 2 ∨ j = 3) with rfl | rfl | rfl | rfl <;> rfl
    · by_cases hj2 : j < 11
      · have := h4 (j - 4) (by simp; omega) (by rw [Mg.size]; omega)
        rw [show 4 + (j - 4) = j by omega] at this
        rw [this]
        rcases (by omega : j = 4 ∨ j = 5 ∨ j = 6 ∨ j = 7 ∨ j = 8 ∨ j = 9 ∨ j = 10) with rfl | rfl | rfl | rfl | rfl | rfl | rfl <;> rfl
      · rw [h5 j (by simp; omega)]
        by_cases hj3 : j < 20
        · rcases (by omega : j = 11 ∨ j = 12 ∨ j = 13 ∨ j = 14 ∨ j = 15 ∨ j = 16 ∨ j = 17 ∨ j = 18 ∨ j = 19) with rfl | rfl | rfl | rfl | rfl | rfl | rfl | rfl | rfl <;> rfl
        · rw [Array.getElem?_eq_none (by rw [Mg.size]; omega), Array.getElem?_eq_none (by rw [Mg.size]; omega)]
  subst this
  exact h1
section
variable {md : Region.Mode} {S : World → Prop} {ops : Array Oper} {i : Nat} {o : Oper} {rs : List Nat} {fuel : Nat} {listed listed' : Array Bool} {a a' : Act} {w : World} {Q : Exit → Act → World → Prop}
theorem rh_storeMc {x y : Operand} {b : Nat} (m : Mg) (c : C7) (hi : ops[i]? = some o) (hl : listed.setIfInBounds i true = listed') (hg : o.guard = none) (ho : o.op = .store 45 x y)
    (hx : a.eval x = .pointer (some ⟨b, 4, none⟩)) (hy : a.eval y = .agg #[.int .i64 c.i, .int .i64 c.k, .int .i64 c.s, .int .i64 c.t, .int .i64 c.d, .int .i64 c.p, .int .i64 c.q]) (hd : o.dst = none) (hC : OM w b m) (h : ∀ W, OM W b { m with c := c } → Upd b w W → S W ∧ wpAnyH Tryz.prog md ops Q S fuel listed' a W) (hs : AllReadyH Tryz.prog md ops Q S fuel listed a w rs) : AllReadyH Tryz.prog md ops Q S fuel listed a w (i :: rs) := by
  refine rh_cons hi hl hg (fun K hK => ?_) hs
  refine wp_store_mid 45 x y ho b 4 _ hx hy (thereAt hC (by rw [Mg.size]; show 4 + 7 ≤ 20; decide)) (show (Tryz.prog.info? 45).map (·.size) = some 7 by kernel_rfl) (all_oneCell_toArray (cs := [.int .i64 c.i, .int .i64 c.k, .int .i64 c.s, .int .i64 c.t, .int .i64 c.d, .int .i64 c.p, .int .i64 c.q]) fun v hv => by simp only [List.mem_cons, List.not_mem_nil, or_false] at hv; rcases hv with h | h | h | h | h | h | h <;> subst h <;> rfl) ?_
  rw [hd]
  obtain ⟨h1, h2⟩ := h _ (setsCmd hC c) (setsUpd' w b 4 _)
  exact hK.out _ _ h1 h2
theorem rh_storeMi {x y : Operand} {b j : Nat} (m m' : Mg) (v : Int) (hi : ops[i]? = some o) (hl : listed.setIfInBounds i true = listed') (hg : o.guard = none) (ho : o.op = .store 3 x y)
    (hx : a.eval x = .pointer (some ⟨b, j, none⟩)) (hy : a.eval y = .int .i64 v) (hd : o.dst = none) (hC : OM w b m) (hj : j < 20) (he : m.arr.setIfInBounds j (.int .i64 v) = m'.arr) (h : ∀ W, OM W b m' → Upd b w W → S W ∧ wpAnyH Tryz.prog md ops Q S fuel listed' a W) (hs : AllReadyH Tryz.prog md ops Q S fuel listed a w rs) : AllReadyH Tryz.prog md ops Q S fuel listed a w (i :: rs) := by
  refine rh_cons hi hl hg (fun K hK => ?_) hs
  obtain ⟨h1, h2⟩ := h _ (hC.set he) (setsUpd' w b j [.int .i64 v])
  have hr := hK.out _ _ h1 h2
  have hc : w.cell? ⟨b, j, none⟩ = some (m.arr[j]'(by rw [Mg.size]; exact hj)) := (cellAt' hC j).trans (Array.getElem?_eq_getElem _)
  have hf := frozenAt hC j
  unfold Oper.wp execOp
  simp only [ho, hx, hy]
  have hr2 : K a (w.setCell ⟨b, j, none⟩ (.int .i64 v)) := hr
  go_simp
  exact hr2
end
theorem wpList_bsM {ops : Array Oper} {rest : List Oper} {op : Oper} {a : Act} {w : World} {Q : Exit → Act → World → Prop} {x : Operand} (m : Mg) (hgd : op.guard = none) (ho : op.op = .buildSlice 24 1 #[(0, x)]) (hx : a.eval x = .agg m.arr)
    (h : ∀ W, OM W w.heap.size m → Below w.heap.size w W → W = w.alloc (.cells m.arr 50) → wpList Tryz.prog ops Q rest (a.put op.dst (.slice (some ⟨w.heap.size, 0, none⟩) 1 1)) W) : wpList Tryz.prog ops Q (op :: rest) a w :=
  wpList_bs1 m.arr hgd ho hx Tryz.underlying24 Tryz.sizeOf50 Tryz.zeroValue50 (Mg.size m) (by decide) (by decide) h
theorem OM.sl {w : World} {q : Nat} {m : Mg} (h : OM w q m) (cap : Nat) : SlM w (.slice (some ⟨q, 0, none⟩) 1 cap) [m] := ⟨q, 0, cap, _, rfl, fun _ => rfl, fun j y hy => by
  rcases j with _ | j
  · rw [List.getElem?_cons_zero] at hy
    obtain rfl := Option.some.inj hy
    simpa using OM.range h
  · simp at hy, fun _ => (Array.getElem?_eq_some_iff.1 h).1⟩
theorem laidM (w : World) (m a : Mg) : OM ((w.alloc (.cells m.arr 50)).alloc (.cells a.arr 50)) w.heap.size m ∧ OM ((w.alloc (.cells m.arr 50)).alloc (.cells a.arr 50)) (w.heap.size + 1) a := ⟨laid2_0 w _ _, laid2_1 w _ _⟩
def BackPost (w : World) (nd : Int) (m a : Mg) (e : Ending) (w' : World) : Prop := ∃ v, e = .returned v ∧ SlM w' v [{ a with fr := nd, tt := m.fr, c := m.c, bal := if a.so = 7 then a.bal else m.bal }] ∧ (∃ g cap, v = .slice (some g) 1 cap ∧ ∃ cur fz, w'.heap[g.block]? = some (.cells cur 50 fz)) ∧ Below w.heap.size w w'
set_option maxHeartbeats 16000000 in
set_option maxRecDepth 100000 in
theorem cBack {w : World} {B : Bd} {q x b b2 n : Nat} {nd c0 : Int} {xs : List En} {ids : List Int} {wv : Value} {ws : List Ms} {ov : Bool} (h : Vx w B q x b b2 n nd c0 xs ids wv ws ov) (m a : Mg) :
    Calls Tryz.prog 73 #[ptr q, .agg m.arr, .agg a.arr] w (BackPost w nd m a) := by
  have HB := hid (laid2_b w (.cells m.arr 50) (.cells a.arr 50))
  have HM := hid (laidM w m a).1
  have HA := hid (laidM w m a).2
  have hz : ((w.alloc (.cells m.arr 50)).alloc (.cells a.arr 50)).heap.size = w.heap.size + 2 := by simp
  have HZ := hid hz
  have HV := hid h
  have HL := hid h.lt
  clear h hz
  go_enter Tryz.func73, Tryz.ntmps73
  go_wp2_with fail
  generalize ((w.alloc (.cells m.arr 50)).alloc (.cells a.arr 50)) = W0 at HB HM HA HZ ⊢
  have HF : Hid (∀ W, Below (w.heap.size + 1) W0 W → OM W w.heap.size m ∧ Vx W B q x b b2 n nd c0 xs ids wv ws ov) := hid fun W hW => ⟨heapB HM.out hW (by omega), HV.out.on (HB.out.trans (hW.mono (by omega)))⟩
  clear HV HM
  have HF2 : Hid (∀ W, Below (w.heap.size + 1) W0 W → W.cell? ⟨q, 0, none⟩ = some (ptr x) ∧ W.cell? ⟨w.heap.size, 1, none⟩ = some (.int .i64 m.fr) ∧ W.cell? ⟨w.heap.size, 4, none⟩ = some (.int .i64 m.c.i) ∧ W.cell? ⟨w.heap.size, 5, none⟩ = some (.int .i64 m.c.k) ∧ W.cell? ⟨w.heap.size, 6, none⟩ = some (.int .i64 m.c.s) ∧ W.cell? ⟨w.heap.size, 7, none⟩ = some (.int .i64 m.c.t) ∧ W.cell? ⟨w.heap.size, 8, none⟩ = some (.int .i64 m.c.d) ∧ W.cell? ⟨w.heap.size, 9, none⟩ = some (.int .i64 m.c.p) ∧ W.cell? ⟨w.heap.size, 10, none⟩ = some (.int .i64 m.c.q)) := hid fun W hW => ⟨(HF.out W hW).2.cells.1, (HF.out W hW).1.cell rfl, (HF.out W hW).1.cell rfl, (HF.out W hW).1.cell rfl, (HF.out W hW).1.cell rfl, (HF.out W hW).1.cell rfl, (HF.out W hW).1.cell rfl, (HF.out W hW).1.cell rfl, (HF.out W hW).1.cell rfl⟩
  refine rh_start (S := fun W => Below (w.heap.size + 1) W0 W) (n := 15) (listed := #[false, false, false, false, false, false, false, false, false, false, false, false, false, false, false]) (by kernel_rfl) rfl rfl ?_
  have HS0 : Hid (Below (w.heap.size + 1) W0 W0.drew) := hid (belowDrew (Below.refl _ W0))
  have HA0 := hid (obDrew HA.out)
  generalize W0.drew = wd at HS0 HA0 ⊢
  refine rh_takeS (i := 0) (o := ?o1) (v := ?v1) (listed' := ?l1) (a' := ?a1) ?hi1 (by kernel_rfl) (by kernel_rfl) (by kernel_rfl) ?hq1 ?hl1 ?hw1 ?hv1 ?ha1 HS0.out ?hh1
  case hi1 => (simp only [List.getElem?_toArray, List.getElem?_cons_zero]; try rfl)
  case hq1 => exact fun _ _ _ h => h
  case hl1 => (simp only [List.setIfInBounds_toArray, List.set_cons_zero]; try rfl)
  case hw1 => rfl
  case hv1 =>
    intro W hW
    obtain ⟨k0, k1, d0, d1, d2, d3, d4, d5, d6⟩ := HF2.out W hW
    go_simp
    try with_reducible rfl
  case ha1 => (simp only [Act.put, List.setIfInBounds_toArray, List.set_cons_succ, List.set_cons_zero]; try rfl)
  refine rh_takeS (i := 1) (o := ?o2) (v := ?v2) (listed' := ?l2) (a' := ?a2) ?hi2 (by kernel_rfl) (by kernel_rfl) (by kernel_rfl) ?hq2 ?hl2 ?hw2 ?hv2 ?ha2 HS0.out ?hh2
  case hi2 => (simp only [List.getElem?_toArray, List.getElem?_cons_succ, List.getElem?_cons_zero]; try rfl)
  case hq2 => exact fun _ _ _ h => h
  case hl2 => (simp only [List.setIfInBounds_toArray, List.set_cons_succ, List.set_cons_zero]; try rfl)
  case hw2 => rfl
  case hv2 =>
    intro W hW
    obtain ⟨k0, k1, d0, d1, d2, d3, d4, d5, d6⟩ := HF2.out W hW
    go_simp
    try with_reducible rfl
  case ha2 => (simp only [Act.put, List.setIfInBounds_toArray, List.set_cons_succ, List.set_cons_zero]; try rfl)
  refine rh_takeS (i := 2) (o := ?o3) (v := ?v3) (listed' := ?l3) (a' := ?a3) ?hi3 (by kernel_rfl) (by kernel_rfl) (by kernel_rfl) ?hq3 ?hl3 ?hw3 ?hv3 ?ha3 HS0.out ?hh3
  case hi3 => (simp only [List.getElem?_toArray, List.getElem?_cons_succ, List.getElem?_cons_zero]; try rfl)
  case hq3 => exact fun _ _ _ h => h
  case hl3 => (simp only [List.setIfInBounds_toArray, List.set_cons_succ, List.set_cons_zero]; try rfl)
  case hw3 => rfl
  case hv3 =>
    intro W hW
    obtain ⟨k0, k1, d0, d1, d2, d3, d4, d5, d6⟩ := HF2.out W hW
    go_simp
    try with_reducible rfl
  case ha3 => (simp only [Act.put, List.setIfInBounds_toArray, List.set_cons_succ, List.set_cons_zero]; try rfl)
  refine rh_takeS (i := 3) (o := ?o4) (v := ?v4) (listed' := ?l4) (a' := ?a4) ?hi4 (by kernel_rfl) (by kernel_rfl) (by kernel_rfl) ?hq4 ?hl4 ?hw4 ?hv4 ?ha4 HS0.out ?hh4
  case hi4 => (simp only [List.getElem?_toArray, List.getElem?_cons_succ, List.getElem?_cons_zero]; try rfl)
  case hq4 => exact fun _ _ _ h => h
  case hl4 => (simp only [List.setIfInBounds_toArray, List.set_cons_succ, List.set_cons_zero]; try rfl)
  case hw4 => rfl
  case hv4 =>
    intro W hW
    obtain ⟨k0, k1, d0, d1, d2, d3, d4, d5, d6⟩ := HF2.out W hW
    go_simp
    try with_reducible rfl
  case ha4 => (simp only [Act.put, List.setIfInBounds_toArray, List.set_cons_succ, List.set_cons_zero]; try rfl)
  refine rh_takeS (i := 5) (o := ?o5) (v := ?v5) (listed' := ?l5) (a' := ?a5) ?hi5 (by kernel_rfl) (by kernel_rfl) (by kernel_rfl) ?hq5 ?hl5 ?hw5 ?hv5 ?ha5 HS0.out ?hh5
  case hi5 => (simp only [List.getElem?_toArray, List.getElem?_cons_succ, List.getElem?_cons_zero]; try rfl)
  case hq5 => exact fun _ _ _ h => h
  case hl5 => (simp only [List.setIfInBounds_toArray, List.set_cons_succ, List.set_cons_zero]; try rfl)
  case hw5 => rfl
  case hv5 =>
    intro W hW
    obtain ⟨k0, k1, d0, d1, d2, d3, d4, d5, d6⟩ := HF2.out W hW
    go_simp
    try with_reducible rfl
  case ha5 => (simp only [Act.put, List.setIfInBounds_toArray, List.set_cons_succ, List.set_cons_zero]; try rfl)
  refine rh_takeS (i := 6) (o := ?o6) (v := ?v6) (listed' := ?l6) (a' := ?a6) ?hi6 (by kernel_rfl) (by kernel_rfl) (by kernel_rfl) ?hq6 ?hl6 ?hw6 ?hv6 ?ha6 HS0.out ?hh6
  case hi6 => (simp only [List.getElem?_toArray, List.getElem?_cons_succ, List.getElem?_cons_zero]; try rfl)
  case hq6 => exact fun _ _ _ h => h
  case hl6 => (simp only [List.setIfInBounds_toArray, List.set_cons_succ, List.set_cons_zero]; try rfl)
  case hw6 => rfl
  case hv6 =>
    intro W hW
    obtain ⟨k0, k1, d0, d1, d2, d3, d4, d5, d6⟩ := HF2.out W hW
    go_simp
    try with_reducible rfl
  case ha6 => (simp only [Act.put, List.setIfInBounds_toArray, List.set_cons_succ, List.set_cons_zero]; try rfl)
  refine rh_takeS (i := 7) (o := ?o7) (v := ?v7) (listed' := ?l7) (a' := ?a7) ?hi7 (by kernel_rfl) (by kernel_rfl) (by kernel_rfl) ?hq7 ?hl7 ?hw7 ?hv7 ?ha7 HS0.out ?hh7
  case hi7 => (simp only [List.getElem?_toArray, List.getElem?_cons_succ, List.getElem?_cons_zero]; try rfl)
  case hq7 => exact fun _ _ _ h => h
  case hl7 => (simp only [List.setIfInBounds_toArray, List.set_cons_succ, List.set_cons_zero]; try rfl)
  case hw7 => rfl
  case hv7 =>
    intro W hW
    obtain ⟨k0, k1, d0, d1, d2, d3, d4, d5, d6⟩ := HF2.out W hW
    go_simp
    try with_reducible rfl
  case ha7 => (simp only [Act.put, List.setIfInBounds_toArray, List.set_cons_succ, List.set_cons_zero]; try rfl)
  refine rh_takeS (i := 8) (o := ?o8) (v := ?v8) (listed' := ?l8) (a' := ?a8) ?hi8 (by kernel_rfl) (by kernel_rfl) (by kernel_rfl) ?hq8 ?hl8 ?hw8 ?hv8 ?ha8 HS0.out ?hh8
  case hi8 => (simp only [List.getElem?_toArray, List.getElem?_cons_succ, List.getElem?_cons_zero]; try rfl)
  case hq8 => exact fun _ _ _ h => h
  case hl8 => (simp only [List.setIfInBounds_toArray, List.set_cons_succ, List.set_cons_zero]; try rfl)
  case hw8 => rfl
  case hv8 =>
    intro W hW
    obtain ⟨k0, k1, d0, d1, d2, d3, d4, d5, d6⟩ := HF2.out W hW
    go_simp
    try with_reducible rfl
  case ha8 => (simp only [Act.put, List.setIfInBounds_toArray, List.set_cons_succ, List.set_cons_zero]; try rfl)
  refine wpAnyH_ready (rs := [4]) (by kernel_rfl) (by simp) ?_
  refine rh_cons (i := 4) (o := ?o9) (listed' := ?l9) ?hi9 ?hl9 ?hg9 ?hh9 ?hs9
  case hi9 => (simp only [List.getElem?_toArray, List.getElem?_cons_succ, List.getElem?_cons_zero]; try rfl)
  case hl9 => (simp only [List.setIfInBounds_toArray, List.set_cons_succ, List.set_cons_zero]; try rfl)
  case hg9 => rfl
  case hs9 => exact AllReadyH.nil
  intro K hK
  go_simp
  refine (cNode (HF.out _ HS0.out).2.ix).mono ?_
  rintro z w1 ⟨rfl, rfl⟩
  refine hK.out _ _ HS0.out ?_
  clear hK K
  refine rh_takeS (i := 9) (o := ?o10) (v := ?v10) (listed' := ?l10) (a' := ?a10) ?hi10 (by kernel_rfl) (by kernel_rfl) (by kernel_rfl) ?hq10 ?hl10 ?hw10 ?hv10 ?ha10 HS0.out ?hh10
  case hi10 => (simp only [List.getElem?_toArray, List.getElem?_cons_succ, List.getElem?_cons_zero]; try rfl)
  case hq10 => exact fun _ _ _ h => h
  case hl10 => (simp only [List.setIfInBounds_toArray, List.set_cons_succ, List.set_cons_zero]; try rfl)
  case hw10 => rfl
  case hv10 =>
    intro W hW
    skip
    go_simp
    try with_reducible rfl
  case ha10 => (simp only [Act.put, List.setIfInBounds_toArray, List.set_cons_succ, List.set_cons_zero]; try rfl)
  refine wpAnyH_ready (rs := [10]) (by kernel_rfl) (by simp) ?_
  refine rh_storeMi (i := 10) (o := ?o11) (listed' := ?l11) (x := ?x11) (y := ?y11) (b := w.heap.size + 1) (j := 1) a { a with fr := nd } (nd) ?hi11 ?hl11 ?hg11 ?ho11 ?hx11 ?hy11 ?hd11 ?hc11 (by decide) rfl ?hh11 ?hs11
  case hi11 => (simp only [List.getElem?_toArray, List.getElem?_cons_succ, List.getElem?_cons_zero]; try rfl)
  case hl11 => (simp only [List.setIfInBounds_toArray, List.set_cons_succ, List.set_cons_zero]; try rfl)
  case hg11 => rfl
  case ho11 => rfl
  case hx11 => rfl
  case hy11 => rfl
  case hd11 => rfl
  case hc11 => exact HA0.out
  case hs11 => exact AllReadyH.nil
  intro w11 hO hU
  have HS11 := hid (HS0.out.trans (hU.below (w.heap.size + 1) (Nat.le_refl _)))
  have HA11 := hid hO
  clear hO hU HS0 HA0
  refine ⟨HS11.out, ?_⟩
  refine rh_takeS (i := 11) (o := ?o12) (v := ?v12) (listed' := ?l12) (a' := ?a12) ?hi12 (by kernel_rfl) (by kernel_rfl) (by kernel_rfl) ?hq12 ?hl12 ?hw12 ?hv12 ?ha12 HS11.out ?hh12
  case hi12 => (simp only [List.getElem?_toArray, List.getElem?_cons_succ, List.getElem?_cons_zero]; try rfl)
  case hq12 => exact fun _ _ _ h => h
  case hl12 => (simp only [List.setIfInBounds_toArray, List.set_cons_succ, List.set_cons_zero]; try rfl)
  case hw12 => rfl
  case hv12 =>
    intro W hW
    skip
    go_simp
    try with_reducible rfl
  case ha12 => (simp only [Act.put, List.setIfInBounds_toArray, List.set_cons_succ, List.set_cons_zero]; try rfl)
  refine wpAnyH_ready (rs := [12]) (by kernel_rfl) (by simp) ?_
  refine rh_storeMi (i := 12) (o := ?o13) (listed' := ?l13) (x := ?x13) (y := ?y13) (b := w.heap.size + 1) (j := 2) { a with fr := nd } { { a with fr := nd } with tt := m.fr } (m.fr) ?hi13 ?hl13 ?hg13 ?ho13 ?hx13 ?hy13 ?hd13 ?hc13 (by decide) rfl ?hh13 ?hs13
  case hi13 => (simp only [List.getElem?_toArray, List.getElem?_cons_succ, List.getElem?_cons_zero]; try rfl)
  case hl13 => (simp only [List.setIfInBounds_toArray, List.set_cons_succ, List.set_cons_zero]; try rfl)
  case hg13 => rfl
  case ho13 => rfl
  case hx13 => rfl
  case hy13 => rfl
  case hd13 => rfl
  case hc13 => exact HA11.out
  case hs13 => exact AllReadyH.nil
  intro w13 hO hU
  have HS13 := hid (HS11.out.trans (hU.below (w.heap.size + 1) (Nat.le_refl _)))
  have HA13 := hid hO
  clear hO hU HS11 HA11
  refine ⟨HS13.out, ?_⟩
  refine rh_takeS (i := 13) (o := ?o14) (v := ?v14) (listed' := ?l14) (a' := ?a14) ?hi14 (by kernel_rfl) (by kernel_rfl) (by kernel_rfl) ?hq14 ?hl14 ?hw14 ?hv14 ?ha14 HS13.out ?hh14
  case hi14 => (simp only [List.getElem?_toArray, List.getElem?_cons_succ, List.getElem?_cons_zero]; try rfl)
  case hq14 => exact fun _ _ _ h => h
  case hl14 => (simp only [List.setIfInBounds_toArray, List.set_cons_succ, List.set_cons_zero]; try rfl)
  case hw14 => rfl
  case hv14 =>
    intro W hW
    skip
    go_simp
    try with_reducible rfl
  case ha14 => (simp only [Act.put, List.setIfInBounds_toArray, List.set_cons_succ, List.set_cons_zero]; try rfl)
  refine wpAnyH_ready (rs := [14]) (by kernel_rfl) (by simp) ?_
  refine rh_storeMc (i := 14) (o := ?o15) (listed' := ?l15) (x := ?x15) (y := ?y15) (b := w.heap.size + 1) { { a with fr := nd } with tt := m.fr } m.c ?hi15 ?hl15 ?hg15 ?ho15 ?hx15 ?hy15 ?hd15 ?hc15 ?hh15 ?hs15
  case hi15 => (simp only [List.getElem?_toArray, List.getElem?_cons_succ, List.getElem?_cons_zero]; try rfl)
  case hl15 => (simp only [List.setIfInBounds_toArray, List.set_cons_succ, List.set_cons_zero]; try rfl)
  case hg15 => rfl
  case ho15 => rfl
  case hx15 => rfl
  case hy15 => rfl
  case hd15 => rfl
  case hc15 => exact HA13.out
  case hs15 => exact AllReadyH.nil
  intro w15 hO hU
  have HS15 := hid (HS13.out.trans (hU.below (w.heap.size + 1) (Nat.le_refl _)))
  have HA15 := hid hO
  clear hO hU HS13 HA13
  refine ⟨HS15.out, ?_⟩
  refine wpAnyH_done (by kernel_rfl) ?_ _
  have HM := hid (HF.out _ HS15.out).1
  clear HF HF2
  have HS := HS15
  have HA := HA15
  clear HS15 HA15
  by_cases h7 : a.so = 7
  · have k0 : w15.cell? ⟨w.heap.size + 1, 0, none⟩ = some (.int .i64 a.so) := HA.out.cell rfl
    have HWX := hid (HB.out.trans (HS.out.mono (Nat.le_succ _)))
    have HR := hid HA.out
    go_wp2_with (first
      | ((with_reducible refine loadM (x := ?lx16) (b := w.heap.size + 1) ({ a with fr := nd, tt := m.fr, c := m.c } : Mg) ?lg16 ?lo16 ?lxx16 ?lc16 ?lh16); (case lg16 => rfl); (case lo16 => rfl); (case lxx16 => rfl); (case lc16 => exact HR.out))
      | ((with_reducible refine wpList_bsM (x := ?bx16) ({ a with fr := nd, tt := m.fr, c := m.c } : Mg) ?bg16 ?bo16 ?be16 ?bh16); (case bg16 => rfl); (case bo16 => rfl); (case be16 => rfl); intro wb hO hBb hWb; have HO := hid hO; have HBb := hid hBb; clear hO hBb hWb)
      | fail)
    go_ret
    unfold BackPost
    refine ⟨_, rfl, ?_, ⟨_, _, rfl, _, _, HO.out⟩, HWX.out.trans (HBb.out.mono HWX.out.size)⟩
    rw [if_pos h7]
    exact OM.sl HO.out 1
  · have k0 : w15.cell? ⟨w.heap.size + 1, 0, none⟩ = some (.int .i64 a.so) := HA.out.cell rfl
    have k3 : w15.cell? ⟨w.heap.size + 1, 3, none⟩ = some (.int .i64 a.bal) := HA.out.cell rfl
    have k4 : w15.cell? ⟨w.heap.size, 3, none⟩ = some (.int .i64 m.bal) := HM.out.cell rfl
    have z3 : w15.frozen? ⟨w.heap.size + 1, 3, none⟩ = false := HA.out.free 3
    have HR := hid (HA.out.set (j := 3) (v := .int .i64 m.bal) (m' := ({ a with fr := nd, tt := m.fr, c := m.c, bal := m.bal } : Mg)) rfl)
    have HWX := hid ((HB.out.trans (HS.out.mono (Nat.le_succ _))).setCell (p := ⟨w.heap.size + 1, 3, none⟩) (by show w.heap.size ≤ w.heap.size + 1; omega) (.int .i64 m.bal))
    go_wp2_with (first
      | ((with_reducible refine loadM (x := ?lx17) (b := w.heap.size + 1) ({ a with fr := nd, tt := m.fr, c := m.c, bal := m.bal } : Mg) ?lg17 ?lo17 ?lxx17 ?lc17 ?lh17); (case lg17 => rfl); (case lo17 => rfl); (case lxx17 => rfl); (case lc17 => exact HR.out))
      | ((with_reducible refine wpList_bsM (x := ?bx17) ({ a with fr := nd, tt := m.fr, c := m.c, bal := m.bal } : Mg) ?bg17 ?bo17 ?be17 ?bh17); (case bg17 => rfl); (case bo17 => rfl); (case be17 => rfl); intro wb hO hBb hWb; have HO := hid hO; have HBb := hid hBb; clear hO hBb hWb)
      | fail)
    go_ret
    unfold BackPost
    refine ⟨_, rfl, ?_, ⟨_, _, rfl, _, _, by have h := HO.out; rw [nblk_setCell] at h; exact h⟩, HWX.out.trans (HBb.out.mono HWX.out.size)⟩
    rw [nblk_setCell] at HO
    rw [if_neg h7]
    exact OM.sl HO.out 1
end Go.Proofs.YtlehcaacfgocaaaGreat
namespace Go.Proofs.YtlehcaacfgocaaaGreat
set_option linter.unusedVariables false
open Go.RowKit
open Go.Lib (hid)
theorem fresh_ok {nd : Int} {s : Sd} (h : mkE (s.c + 1) nd = 0) : freshS nd s = ⟨s.xs, s.c + 1, false⟩ := by unfold freshS; rw [if_pos h]
theorem fresh_no {nd : Int} {s : Sd} (h : ¬ mkE (s.c + 1) nd = 0) : freshS nd s = ⟨s.xs, s.c, true⟩ := by unfold freshS; rw [if_neg h]
theorem mk_bd {c nd : Int} (hc : 0 ≤ c) (h : mkE (c + 1) nd = 0) : 0 ≤ c + 1 ∧ c + 1 ≤ 65535 := by
  unfold mkE at h
  split at h
  · cases h
  · split at h
    · cases h
    · omega
theorem tch_q {q x b b2 : Nat} {w w' : World} (h : Tch (fun k => k = q) w w') : Tch (TV q x b b2) w w' := h.mono fun k hk => .inl hk
theorem tch_i {q x b b2 : Nat} {w w' : World} (h : Tch (TI x b b2) w w') : Tch (TV q x b b2) w w' := h.mono fun k hk => .inr hk
theorem tch_drew {S : Nat → Prop} (w : World) : Tch S w w.drew := Tch.ofBelow (belowDrew (Below.refl _ w))
theorem tch_drewN {S : Nat → Prop} (w : World) (n : Nat) : Tch S w (w.drewN n) := Tch.ofBelow (Below.drewN' (Below.refl _ w) n)
def FreshPost (w : World) (B : Bd) (q x b b2 N : Nat) (nd : Int) (s : Sd) (wv : Value) (ws : List Ms) (e : Ending) (w' : World) : Prop :=
  e = .returned (.tuple #[.int .i64 (mkV (s.c + 1) nd), .bool (decide (mkE (s.c + 1) nd = 0))]) ∧ Vo w' B q x b b2 N nd (freshS nd s) wv ws ∧ Tch (TV q x b b2) w w'
set_option maxHeartbeats 4000000 in
set_option maxRecDepth 100000 in
theorem cFresh {w : World} {B : Bd} {q x b b2 N : Nat} {nd : Int} {s : Sd} {wv : Value} {ws : List Ms} (h : Vo w B q x b b2 N nd s wv ws) :
    Calls Tryz.prog 117 #[ptr q] w (FreshPost w B q x b b2 N nd s wv ws) := by
  obtain ⟨n, ids, hn, hV⟩ := h.ix
  have hq := hV.lt
  have k0 := hV.cells.1
  have hTk := cTick hV.ix h.cb
  obtain ⟨r, hr⟩ : ∃ r, r = mkE (s.c + 1) nd := ⟨_, rfl⟩
  obtain ⟨t, ht⟩ : ∃ t, t = mkV (s.c + 1) nd := ⟨_, rfl⟩
  rw [← hr, ← ht] at hTk
  have HR := hid hr
  have HT := hid ht
  have HV := hid hV
  have HO := hid h
  have HN := hid hn
  clear h hV hr ht hn
  go_enter Tryz.func117, Tryz.ntmps117
  by_cases h0 : r = 0
  · subst h0
    go_wp2_with (first
      | (go_at_call 150; (refine hTk.mono ?_; rintro e w1 ⟨rfl, hI, hT0⟩; have hT : Tch (TI x b b2) w w1 := hT0.mono (fun k hk => .inl hk); have hV1 := HV.out.idx hT hI; have k1 := hV1.cells.2.2.1; have z1 := hV1.cells.2.2.2.2; have HV1 := hid hV1; have HT1 := hid hT; clear hV1 hI hT hT0))
      | fail)
    have HV2 := hid (HV1.out.over false).1
    have HT2 := hid (HV1.out.over false).2
    have k2 := HV2.out.cells.2.2.1
    generalize w1.setCell ⟨q, 2, none⟩ (.bool false) = w2 at HV2 HT2 k2 ⊢
    go_quiet (fail)
    go_wp2_with fail
    go_ret2
    have hT3 := ((tch_i HT1.out).trans (tch_q HT2.out)).trans (tch_drewN (S := TV q x b b2) w2 nq)
    refine ⟨by rw [← HR.out, ← HT.out]; rfl, ?_, hT3⟩
    rw [fresh_ok HR.out.symm]
    have hv := HV2.out.on (Below.drewN' (Below.refl _ w2) nq)
    simp only [if_true] at hv
    exact HO.out.step hT3 hv HN.out (mk_bd HO.out.cb.1 HR.out.symm)
  · go_wp2_with (first
      | (go_at_call 150; (refine hTk.mono ?_; rintro e w1 ⟨rfl, hI, hT0⟩; have hT : Tch (TI x b b2) w w1 := hT0.mono (fun k hk => .inl hk); have hV1 := HV.out.idx hT hI; have k1 := hV1.cells.2.2.1; have z1 := hV1.cells.2.2.2.2; have HV1 := hid hV1; have HT1 := hid hT; clear hV1 hI hT hT0))
      | fail)
    have HV2 := hid (HV1.out.over (r != 0)).1
    have HT2 := hid (HV1.out.over (r != 0)).2
    have k2 := HV2.out.cells.2.2.1
    generalize w1.setCell ⟨q, 2, none⟩ (.bool (r != 0)) = w2 at HV2 HT2 k2 ⊢
    have hb : (r != 0) = true := by simpa using h0
    rw [hb] at HV2 k2
    go_quiet (fail)
    go_wp2_with fail
    go_ret2
    have hT3 := ((tch_i HT1.out).trans (tch_q HT2.out)).trans (tch_drewN (S := TV q x b b2) w2 nq)
    refine ⟨by rw [← HR.out, ← HT.out, decide_eq_false h0]; rfl, ?_, hT3⟩
    rw [fresh_no (by rw [← HR.out]; exact h0)]
    have hv := HV2.out.on (Below.drewN' (Below.refl _ w2) nq)
    rw [if_neg h0] at hv
    exact HO.out.step hT3 hv HN.out HO.out.cb
end Go.Proofs.YtlehcaacfgocaaaGreat
