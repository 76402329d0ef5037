import Derived.Test.YtogoibigabpkhaaGreatG24
import Derived.Test.YtogoibigabpkhaaGreatQSetM
import Derived.Test.YtogoibigabpkhaaGreatQNoteM
import Derived.Test.YtogoibigabpkhaaGreatQChgM
import Derived.Test.YtogoibigabpkhaaGreatQPutM
import Derived.Test.YtogoibigabpkhaaGreatG04
import Derived.Deep.Light
/- The document's Put. -/
namespace Go.Proofs.YtogoibigabpkhaaGreat
set_option linter.unusedVariables false
open Go.RowKit
open Go.Lib (hid)

theorem keptE_snoc (xs : List En) (y : En) : keptE (xs ++ [y]) = placeG idE y.e (keptE xs) := by
  unfold keptE
  rw [kept_snoc, place_eq, place_map En.id (k' := idE) En.e (fun _ => rfl)]
theorem upI_snoc (l : List Int) (i : Int) : upI (l ++ [i]) = placeG idZ i (upI l) := by
  show keptG _ (l ++ [i]) = _
  rw [kept_snoc, place_eq]
theorem keptE_len (xs : List En) : (keptE xs).length ≤ xs.length := by
  unfold keptE; rw [List.length_map]; exact kept_lenG xs
theorem upI_len (l : List Int) : (upI l).length ≤ l.length := by
  induction l using snocRec with
  | nil => simp [upI, keptG]
  | snoc l i ih =>
    rw [upI_snoc]
    have h : (placeG idZ i (upI l)).length ≤ (upI l).length + 1 := by
      have := stI_len i (upI l)
      unfold placeG putEnd
      split
      · exact this
      · rename_i hd
        have h2 : (stI i (upI l)).1.length ≤ (upI l).length := stI_len2 i (upI l) (by simpa using hd)
        simp; exact h2
    simp; omega
set_option maxHeartbeats 8000000 in
set_option maxRecDepth 100000 in
theorem rIPut {w : World} {p : Nat} {nd c : Int} {v u : Value} {xs : List En} {ids : List Int} {y : En} (h : Rx w p nd c v u (keptE xs) (upI ids)) (hlx : xs.length ≤ 20000) (hli : ids.length ≤ 20000) (hy : y.at w) (hs : y.short 1024) {r : Int}
    (hr : r = if y.right = false then 1 else if hasE xs y.id = true ∧ ¬ (lookE xs y.id).c = y.e.c then 6 else 0) :
    Calls Tryz.prog 39 #[ptr p, .agg y.e.arr] w fun e w' => e = .returned (.int .i64 r) ∧ (if r = 0 then ∃ v' u', Rx w' p nd (seeE c y.e) v' u' (keptE (xs ++ [y])) (upI (ids ++ [y.id])) else Rx w' p nd c v u (keptE xs) (upI ids)) ∧ Tch (fun k => k = p) w w' := by
  have HX : Hid ((w.alloc (.cells y.e.arr 74)).heap[w.heap.size]? = some (.cells y.e.arr 74)) := hid (heap_alloc_new w _)
  have HW : Hid (Below w.heap.size w (w.alloc (.cells y.e.arr 74))) := hid ((Below.refl _ w).alloc (Nat.le_refl _) _)
  have HJ := hid (h.on HW.out)
  have HL := hid h.lt
  have HY := hid (hy.on HW.out)
  have HR := hid hr
  have HLX := hid (show (keptE xs).length ≤ 20000 from Nat.le_trans (keptE_len xs) hlx)
  have HLI := hid (show (upI ids).length ≤ 20000 from Nat.le_trans (upI_len ids) hli)
  clear h hy hr
  obtain ⟨rt, hrt⟩ : ∃ rt, rt = y.right := ⟨_, rfl⟩
  have hRi := rRightE HY.out.1 HY.out.2.1 HY.out.2.2 hs.1 hs.2.1 hs.2.2
  rw [show rightE y.e y.f y.a y.v = rt from hrt.symm] at hRi
  rw [← hrt] at HR
  have HRT := hid hrt
  clear hrt
  go_enter Tryz.func39, Tryz.ntmps39
  rcases rt with _ | _
  · obtain rfl : r = 1 := by have := HR.out; rw [if_pos rfl] at this; exact this
    go_wp2_with (first
      | ((with_reducible refine loadR (x := ?cx2) (b := w.heap.size) (T := 74) y.e ?cg2 ?co2 ?cxx2 ?cc2 ?_); (case cg2 => rfl); (case co2 => rfl); (case cxx2 => rfl); (case cc2 => exact HX.out))
      | (go_at_call 30; refine hRi.mono ?_; rintro q w1 ⟨rfl, hB1⟩; have HB1 := hid hB1; clear hB1)
      | fail)
    go_ret
    exact ⟨rfl, HJ.out.on HB1.out, Tch.ofBelow (HW.out.trans (HB1.out.mono HW.out.size))⟩
  go_wp2_with (first
    | ((with_reducible refine loadR (x := ?cx2) (b := w.heap.size) (T := 74) y.e ?cg2 ?co2 ?cxx2 ?cc2 ?_); (case cg2 => rfl); (case co2 => rfl); (case cxx2 => rfl); (case cc2 => exact HX.out))
    | (go_at_call 30; refine hRi.mono ?_; rintro q w1 ⟨rfl, hB1⟩; have HB1 := hid hB1
       have hX1 := heapB HX.out hB1 (Array.getElem?_eq_some_iff.1 HX.out).1
       have k4 : w1.cell? ⟨w.heap.size, 0, none⟩ = some (.int .i64 y.e.c.i) := (cellAt' hX1 0).trans rfl
       clear hX1 hB1)
    | fail)
  have HJ1 := hid (HJ.out.on HB1.out)
  have HX1 := hid (heapB HX.out HB1.out (Array.getElem?_eq_some_iff.1 HX.out).1)
  have HW1 := hid (HW.out.trans (HB1.out.mono HW.out.size))
  have hA := rAt HJ1.out HLX.out y.e.c.i
  obtain ⟨d1, hd1⟩ : ∃ d, d = hasE xs y.id := ⟨_, rfl⟩
  rw [← hd1] at HR
  have HD := hid hd1
  clear hd1 HJ HX HW HY hRi k4 HB1
  rcases d1 with _ | _
  · obtain rfl : r = 0 := by have := HR.out; simpa using this
    rw [at_kept_no HD.out.symm] at hA
    go_wp2_with fail
    go_at_call 31
    refine hA.mono ?_
    rintro q w' ⟨rfl, rfl⟩
    go_wp2_with fail
    go_quiet (fail)
    obtain ⟨W2, hW2⟩ : ∃ W, W = w1.drewN nq := ⟨_, rfl⟩
    rw [← hW2]
    have HBQ : Hid (Below w1.heap.size w1 W2) := hid (by rw [hW2]; exact belowDrewN (Below.refl _ w1) nq)
    clear hW2
    have HJ2 := hid (HJ1.out.on HBQ.out)
    have HT2 := hid (HW1.out.trans (HBQ.out.mono HW1.out.size))
    have HX2 : Hid (Ob W2 w.heap.size 74 y.e) := hid (heapB HX1.out HBQ.out (Array.getElem?_eq_some_iff.1 HX1.out).1)
    have HNE : Hid (¬ (w.heap.size = p)) := hid (by have := HL.out; omega)
    go_wp2_with (first
      | ((with_reducible refine loadR (x := ?cx5) (b := w.heap.size) (T := 74) y.e ?cg5 ?co5 ?cxx5 ?cc5 ?_); (case cg5 => rfl); (case co5 => rfl); (case cxx5 => rfl); (case cc5 => exact HX2.out))
      | fail)
    go_at_call 32
    refine (rSet HJ2.out HLX.out).mono ?_
    rintro q w3 ⟨rfl, ⟨v3, hJ3⟩, hT3⟩
    rw [← keptE_snoc] at hJ3
    have HJ3 := hid hJ3
    have HX3 : Hid (Ob w3 w.heap.size 74 y.e) := hid (hT3.ob HX2.out HNE.out)
    have HZ3 := hid ((Tch.ofBelow (S := fun k => k = p) HT2.out).trans hT3)
    clear hJ3 hT3
    have k0 := HX3.out.cell (j := 0) (v := .int .i64 y.e.c.i) rfl
    go_wp2_with fail
    go_at_call 77
    refine (rNote HJ3.out HLI.out).mono ?_
    rintro q w4 ⟨rfl, ⟨u4, hJ4⟩, hT4⟩
    rw [← upI_snoc] at hJ4
    have HJ4 := hid hJ4
    have HX4 : Hid (Ob w4 w.heap.size 74 y.e) := hid (hT4.ob HX3.out HNE.out)
    have HZ4 := hid (HZ3.out.trans hT4)
    clear hJ4 hT4 HJ3 HX3 HZ3 k0
    have k9 := HX4.out.cell (j := 9) (v := .int .i64 y.e.hi) rfl
    go_wp2_with fail
    go_at_call 33
    refine (rSee HJ4.out y.e.hi).mono ?_
    rintro q w5 ⟨rfl, hJ5, hT5⟩
    have HJ5 := hid hJ5
    have HX5 : Hid (Ob w5 w.heap.size 74 y.e) := hid (hT5.ob HX4.out HNE.out)
    have HZ5 := hid (HZ4.out.trans hT5)
    clear hJ5 hT5 HJ4 HX4 HZ4 k9
    have k10 := HX5.out.cell (j := 10) (v := .int .i64 y.e.ft) rfl
    go_wp2_with fail
    go_at_call 33
    refine (rSee HJ5.out y.e.ft).mono ?_
    rintro q w6 ⟨rfl, hJ6, hT6⟩
    have HJ6 := hid hJ6
    have HX6 : Hid (Ob w6 w.heap.size 74 y.e) := hid (hT6.ob HX5.out HNE.out)
    have HZ6 := hid (HZ5.out.trans hT6)
    clear hJ6 hT6 HJ5 HX5 HZ5 k10
    have k13 := HX6.out.cell (j := 13) (v := .int .i64 y.e.xt) rfl
    go_wp2_with fail
    go_at_call 33
    refine (rSee HJ6.out y.e.xt).mono ?_
    rintro q w7 ⟨rfl, hJ7, hT7⟩
    have HJ7 := hid hJ7
    have HX7 : Hid (Ob w7 w.heap.size 74 y.e) := hid (hT7.ob HX6.out HNE.out)
    have HZ7 := hid (HZ6.out.trans hT7)
    clear hJ7 hT7 HJ6 HX6 HZ6 k13
    have k17 := HX7.out.cell (j := 17) (v := .int .i64 y.e.vt) rfl
    go_wp2_with fail
    go_at_call 33
    refine (rSee HJ7.out y.e.vt).mono ?_
    rintro q w8 ⟨rfl, hJ8, hT8⟩
    have HJ8 := hid hJ8
    have HX8 : Hid (Ob w8 w.heap.size 74 y.e) := hid (hT8.ob HX7.out HNE.out)
    have HZ8 := hid (HZ7.out.trans hT8)
    clear hJ8 hT8 HJ7 HX7 HZ7 k17
    go_wp2_with fail
    go_ret
    exact ⟨rfl, ⟨v3, u4, HJ8.out⟩, HZ8.out⟩
  · obtain ⟨k, hk1, hk2⟩ := at_kept_yes HD.out.symm
    rw [hk1] at hA
    obtain ⟨-, -, k2, -⟩ := HJ1.out.cells
    obtain ⟨bb, o, cap, a, rfl, ha, hc, hb⟩ := OwnG.slG kE HJ1.out.es
    have hlt := (List.getElem?_eq_some_iff.1 hk2).1
    obtain rfl := ha (by omega)
    have hrow := hc k _ hk2
    obtain ⟨e1, he1⟩ : ∃ e, e = lookE xs y.id := ⟨_, rfl⟩
    rw [← he1] at hrow HR
    have u0 : w1.cell? ⟨bb, o + k * 19, none⟩ = some (.int .i64 e1.c.i) := hrow 0 _ rfl
    have u1 : w1.cell? ⟨bb, o + k * 19 + 1, none⟩ = some (.int .i64 e1.c.k) := hrow 1 _ rfl
    have u2 : w1.cell? ⟨bb, o + k * 19 + 2, none⟩ = some (.int .i64 e1.c.s) := hrow 2 _ rfl
    have u3 : w1.cell? ⟨bb, o + k * 19 + 3, none⟩ = some (.int .i64 e1.c.t) := hrow 3 _ rfl
    have u4 : w1.cell? ⟨bb, o + k * 19 + 4, none⟩ = some (.int .i64 e1.c.d) := hrow 4 _ rfl
    have u5 : w1.cell? ⟨bb, o + k * 19 + 5, none⟩ = some (.int .i64 e1.c.p) := hrow 5 _ rfl
    have u6 : w1.cell? ⟨bb, o + k * 19 + 6, none⟩ = some (.int .i64 e1.c.q) := hrow 6 _ rfl
    have v0 : w1.cell? ⟨w.heap.size, 0, none⟩ = some (.int .i64 y.e.c.i) := (cellAt' HX1.out 0).trans rfl
    have v1 : w1.cell? ⟨w.heap.size, 1, none⟩ = some (.int .i64 y.e.c.k) := (cellAt' HX1.out 1).trans rfl
    have v2 : w1.cell? ⟨w.heap.size, 2, none⟩ = some (.int .i64 y.e.c.s) := (cellAt' HX1.out 2).trans rfl
    have v3 : w1.cell? ⟨w.heap.size, 3, none⟩ = some (.int .i64 y.e.c.t) := (cellAt' HX1.out 3).trans rfl
    have v4 : w1.cell? ⟨w.heap.size, 4, none⟩ = some (.int .i64 y.e.c.d) := (cellAt' HX1.out 4).trans rfl
    have v5 : w1.cell? ⟨w.heap.size, 5, none⟩ = some (.int .i64 y.e.c.p) := (cellAt' HX1.out 5).trans rfl
    have v6 : w1.cell? ⟨w.heap.size, 6, none⟩ = some (.int .i64 y.e.c.q) := (cellAt' HX1.out 6).trans rfl
    have hkz : decide ((k : Int) < 0) = false := decide_eq_false (by omega)
    have hkp : (0 : Int) ≤ (k : Int) := by omega
    generalize hm : (keptE xs).length = m at hlt k2
    have HM := hid hm
    clear hk1 hk2 ha hc hb hrow he1 hm
    rcases hsame : e1.c.same y.e.c with _ | _
    · obtain rfl : r = 6 := by have := HR.out; rw [if_neg (by simp), if_pos ⟨rfl, same_no' hsame⟩] at this; exact this
      have q1 := fun W => neqC hsame W
      have q2 := fun W => guardC .neq (.tmp 26) (.tmp 28) e1.c y.e.c W
      clear hsame
      go_wp2_with fail
      go_at_call 31
      refine hA.mono ?_
      rintro q w' ⟨rfl, rfl⟩
      go_wp2_with fail
      go_quiet (fail)
      obtain ⟨W2, hW2⟩ : ∃ W, W = w1.drewN nq := ⟨_, rfl⟩
      rw [← hW2]
      have HBQ : Hid (Below w1.heap.size w1 W2) := hid (by rw [hW2]; exact belowDrewN (Below.refl _ w1) nq)
      clear hW2
      have HJ2 := hid (HJ1.out.on HBQ.out)
      have HT2 := hid (HW1.out.trans (HBQ.out.mono HW1.out.size))
      have HX2 : Hid (Ob W2 w.heap.size 74 y.e) := hid (heapB HX1.out HBQ.out (Array.getElem?_eq_some_iff.1 HX1.out).1)
      have HNE : Hid (¬ (w.heap.size = p)) := hid (by have := HL.out; omega)
      go_wp2_with fail
      go_ret
      exact ⟨rfl, HJ2.out, Tch.ofBelow HT2.out⟩
    · obtain rfl : r = 0 := by have := HR.out; rw [if_neg (by simp), if_neg (fun h => h.2 (C7.same_iff.1 hsame))] at this; exact this
      have q1 := fun W => neqC hsame W
      have q2 := fun W => guardC .neq (.tmp 26) (.tmp 28) e1.c y.e.c W
      clear hsame
      go_wp2_with fail
      go_at_call 31
      refine hA.mono ?_
      rintro q w' ⟨rfl, rfl⟩
      go_wp2_with fail
      go_quiet (fail)
      obtain ⟨W2, hW2⟩ : ∃ W, W = w1.drewN nq := ⟨_, rfl⟩
      rw [← hW2]
      have HBQ : Hid (Below w1.heap.size w1 W2) := hid (by rw [hW2]; exact belowDrewN (Below.refl _ w1) nq)
      clear hW2
      have HJ2 := hid (HJ1.out.on HBQ.out)
      have HT2 := hid (HW1.out.trans (HBQ.out.mono HW1.out.size))
      have HX2 : Hid (Ob W2 w.heap.size 74 y.e) := hid (heapB HX1.out HBQ.out (Array.getElem?_eq_some_iff.1 HX1.out).1)
      have HNE : Hid (¬ (w.heap.size = p)) := hid (by have := HL.out; omega)
      go_wp2_with (first
        | ((with_reducible refine loadR (x := ?cx5) (b := w.heap.size) (T := 74) y.e ?cg5 ?co5 ?cxx5 ?cc5 ?_); (case cg5 => rfl); (case co5 => rfl); (case cxx5 => rfl); (case cc5 => exact HX2.out))
        | fail)
      go_at_call 32
      refine (rSet HJ2.out HLX.out).mono ?_
      rintro q w3 ⟨rfl, ⟨v3, hJ3⟩, hT3⟩
      rw [← keptE_snoc] at hJ3
      have HJ3 := hid hJ3
      have HX3 : Hid (Ob w3 w.heap.size 74 y.e) := hid (hT3.ob HX2.out HNE.out)
      have HZ3 := hid ((Tch.ofBelow (S := fun k => k = p) HT2.out).trans hT3)
      clear hJ3 hT3
      have k0 := HX3.out.cell (j := 0) (v := .int .i64 y.e.c.i) rfl
      go_wp2_with fail
      go_at_call 77
      refine (rNote HJ3.out HLI.out).mono ?_
      rintro q w4 ⟨rfl, ⟨u4, hJ4⟩, hT4⟩
      rw [← upI_snoc] at hJ4
      have HJ4 := hid hJ4
      have HX4 : Hid (Ob w4 w.heap.size 74 y.e) := hid (hT4.ob HX3.out HNE.out)
      have HZ4 := hid (HZ3.out.trans hT4)
      clear hJ4 hT4 HJ3 HX3 HZ3 k0
      have k9 := HX4.out.cell (j := 9) (v := .int .i64 y.e.hi) rfl
      go_wp2_with fail
      go_at_call 33
      refine (rSee HJ4.out y.e.hi).mono ?_
      rintro q w5 ⟨rfl, hJ5, hT5⟩
      have HJ5 := hid hJ5
      have HX5 : Hid (Ob w5 w.heap.size 74 y.e) := hid (hT5.ob HX4.out HNE.out)
      have HZ5 := hid (HZ4.out.trans hT5)
      clear hJ5 hT5 HJ4 HX4 HZ4 k9
      have k10 := HX5.out.cell (j := 10) (v := .int .i64 y.e.ft) rfl
      go_wp2_with fail
      go_at_call 33
      refine (rSee HJ5.out y.e.ft).mono ?_
      rintro q w6 ⟨rfl, hJ6, hT6⟩
      have HJ6 := hid hJ6
      have HX6 : Hid (Ob w6 w.heap.size 74 y.e) := hid (hT6.ob HX5.out HNE.out)
      have HZ6 := hid (HZ5.out.trans hT6)
      clear hJ6 hT6 HJ5 HX5 HZ5 k10
      have k13 := HX6.out.cell (j := 13) (v := .int .i64 y.e.xt) rfl
      go_wp2_with fail
      go_at_call 33
      refine (rSee HJ6.out y.e.xt).mono ?_
      rintro q w7 ⟨rfl, hJ7, hT7⟩
      have HJ7 := hid hJ7
      have HX7 : Hid (Ob w7 w.heap.size 74 y.e) := hid (hT7.ob HX6.out HNE.out)
      have HZ7 := hid (HZ6.out.trans hT7)
      clear hJ7 hT7 HJ6 HX6 HZ6 k13
      have k17 := HX7.out.cell (j := 17) (v := .int .i64 y.e.vt) rfl
      go_wp2_with fail
      go_at_call 33
      refine (rSee HJ7.out y.e.vt).mono ?_
      rintro q w8 ⟨rfl, hJ8, hT8⟩
      have HJ8 := hid hJ8
      have HX8 : Hid (Ob w8 w.heap.size 74 y.e) := hid (hT8.ob HX7.out HNE.out)
      have HZ8 := hid (HZ7.out.trans hT8)
      clear hJ8 hT8 HJ7 HX7 HZ7 k17
      go_wp2_with fail
      go_ret
      exact ⟨rfl, ⟨v3, u4, HJ8.out⟩, HZ8.out⟩
end Go.Proofs.YtogoibigabpkhaaGreat
/- The contracts of Find, the document's and the program's. -/
namespace Go.Proofs.YtogoibigabpkhaaGreat
open Go.RowKit
open Go.Lib (hid)

theorem place_none {l : List C7} {k : Nat} (hk : l.length ≤ k) {id : Int} (h : ∀ j, j < k → ∀ c, l[j]? = some c → c.i ≠ id) : placeI l id = none := placeI_nowhere fun j hj => h j (by omega)
theorem not_next {l : List C7} {k : Nat} {id : Int} (h : ∀ j, j < k → ∀ c, l[j]? = some c → c.i ≠ id) {c : C7} (hc : l[k]? = some c) (hi : ¬ c.i = id) : ∀ j, j < k + 1 → ∀ c, l[j]? = some c → c.i ≠ id := fun j hj d hd => by
  by_cases e : j = k
  · subst e; rw [hc] at hd; rw [← Option.some.inj hd]; exact hi
  · exact h j (by omega) d hd

theorem placeV_some {l : List C7} {id : Int} {k : Nat} (h : placeI l id = some k) : placeV l id = (k : Int) := by unfold placeV; rw [h]
theorem placeV_none {l : List C7} {id : Int} (h : placeI l id = none) : placeV l id = -1 := by unfold placeV; rw [h]

set_option maxHeartbeats 600000 in
set_option maxRecDepth 100000 in
theorem rFind {v : Value} {cs : List C7} {w : World} (h : Sl w v cs) (hl : cs.length ≤ 100000) (id : Int) : Calls Tryz.prog 86 #[v, .int .i64 id] w fun e w' => e = .returned (.int .i64 (placeV cs id)) ∧ w = w' := by
  obtain ⟨b, o, cap, a, rfl, hn, ha, hc, hb⟩ := h
  go_enter Tryz.func86, Tryz.ntmps86
  go_wp2
  go_loopw [5] (fun i wr => ∃ k : Nat, k ≤ cs.length ∧ i = .int .i64 k ∧ Hid (∀ j, j < k → ∀ c, cs[j]? = some c → c.i ≠ id) ∧ wr = w) (fun i _ => cs.length - (intOf i).toNat)
  case atStart => exact ⟨0, Nat.zero_le _, rfl, fun j hj => absurd hj (by omega), rfl⟩
  case round =>
    obtain ⟨k, hk, rfl, hak, rfl⟩ := hrel
    by_cases hlt : k < cs.length
    · obtain rfl := ha (by omega)
      obtain ⟨c, hcc⟩ : ∃ c, cs[k]? = some c := ⟨cs[k], List.getElem?_eq_getElem hlt⟩
      have hbw := hb (by omega)
      obtain ⟨c0, _, _, _, _, _, _⟩ := hc.at hcc
      have HC := hid hcc
      clear hcc
      by_cases hi : c.i = id
      · have HI := hid hi
        have HS : Hid (placeV cs id = (k : Int)) := placeV_some (placeI_first hak.out HC.out hi)
        go_wp2
        go_ret
        exact ⟨ret_int HS.out.symm, rfl⟩
      · have HI := hid hi
        go_wp2
        go_roundw
        case rel => exact ⟨k + 1, by omega, by go_num, not_next hak.out HC.out HI.out, by first | rfl | trivial⟩
        case measure => simp [intOf]; omega
    · have HS : Hid (placeV cs id = -1) := placeV_none (place_none (by omega) hak.out)
      go_wp2
      go_ret
      exact ⟨ret_int HS.out.symm, rfl⟩

def foundC (cs : List C7) (id : Int) : C7 := match placeI cs id with | some k => (cs[k]?).getD default | none => default
def foundB (cs : List C7) (id : Int) : Bool := (placeI cs id).isSome
theorem found_some {cs : List C7} {id : Int} {k : Nat} {c : C7} (h : placeI cs id = some k) (hc : cs[k]? = some c) : foundC cs id = c ∧ foundB cs id = true := by
  unfold foundC foundB; rw [h]; simp [hc]
theorem found_none {cs : List C7} {id : Int} (h : placeI cs id = none) : foundC cs id = default ∧ foundB cs id = false := by
  unfold foundC foundB; rw [h]; simp

theorem box7 {w wr : World} (hB : Below (w.heap.size + 1) (w.alloc (.cells #[.int .i64 0, .int .i64 0, .int .i64 0, .int .i64 0, .int .i64 0, .int .i64 0, .int .i64 0] 40)) wr) :
    (w.heap.size < wr.heap.size) ∧ (∀ f, f < 7 → wr.cell? ⟨w.heap.size, f, none⟩ = some (.int .i64 0)) ∧ (∀ f, wr.frozen? ⟨w.heap.size, f, none⟩ = false) := by
  have hs := hB.size
  refine ⟨by simp at hs; omega, fun f hf => ?_, fun f => ?_⟩
  · rw [hB.cell (p := ⟨w.heap.size, f, none⟩) (by show w.heap.size < w.heap.size + 1; omega)]
    match f, hf with
    | 0, _ => simp [go_sem]
    | 1, _ => simp [go_sem]
    | 2, _ => simp [go_sem]
    | 3, _ => simp [go_sem]
    | 4, _ => simp [go_sem]
    | 5, _ => simp [go_sem]
    | 6, _ => simp [go_sem]
  · rw [hB.frozen (p := ⟨w.heap.size, f, none⟩) (by show w.heap.size < w.heap.size + 1; omega)]
    simp [go_sem]
abbrev cmB (c : C7) (b : Bool) : Value := .tuple #[c.v, .bool b]
set_option maxHeartbeats 600000 in
set_option maxRecDepth 100000 in
theorem cFind {v : Value} {cs : List C7} {w : World} (h : Sl w v cs) (hl : cs.length ≤ 100000) (id : Int) : Calls Tryz.prog 90 #[v, .int .i64 id] w fun e w' => e = .returned (cmB (foundC cs id) (foundB cs id)) ∧ Below w.heap.size w w' := by
  obtain ⟨b, o, cap, a, rfl, hn, ha, hc, hb⟩ := h
  go_enter Tryz.func90, Tryz.ntmps90
  go_wp2
  go_loopw [10] (fun i wr => ∃ k : Nat, k ≤ cs.length ∧ i = .int .i64 k ∧ Hid (∀ j, j < k → ∀ c, cs[j]? = some c → c.i ≠ id) ∧ Below (w.heap.size + 1) (w.alloc (.cells #[.int .i64 0, .int .i64 0, .int .i64 0, .int .i64 0, .int .i64 0, .int .i64 0, .int .i64 0] 40)) wr) (fun i _ => cs.length - (intOf i).toNat)
  case atStart => exact ⟨0, Nat.zero_le _, rfl, fun j hj => absurd hj (by omega), Below.refl _ _⟩
  case round =>
    obtain ⟨k, hk, rfl, hak, hB⟩ := hrel
    obtain ⟨hsz, hcell, hfr⟩ := box7 hB
    have k0 := hcell 0 (by omega); have k1 := hcell 1 (by omega); have k2 := hcell 2 (by omega); have k3 := hcell 3 (by omega); have k4 := hcell 4 (by omega); have k5 := hcell 5 (by omega); have k6 := hcell 6 (by omega)
    clear hcell
    by_cases hlt : k < cs.length
    · obtain rfl := ha (by omega)
      obtain ⟨c, hcc⟩ : ∃ c, cs[k]? = some c := ⟨cs[k], List.getElem?_eq_getElem hlt⟩
      have hbw := hb (by omega)
      obtain ⟨c0, c1, c2, c3, c4, c5, c6⟩ := (hc.on (w' := wr) (B := w.heap.size) (((Below.refl _ w).alloc (Nat.le_refl _) _).trans (hB.mono (by omega))) hbw).at hcc
      have HC := hid hcc
      clear hcc
      by_cases hi : c.i = id
      · have HI := hid hi
        have HF : Hid (foundC cs id = c ∧ foundB cs id = true) := found_some (placeI_first hak.out HC.out hi) HC.out
        have HW := hid (((Below.refl w.heap.size w).alloc (Nat.le_refl _) (.cells #[.int .i64 0, .int .i64 0, .int .i64 0, .int .i64 0, .int .i64 0, .int .i64 0, .int .i64 0] 40)).trans (hB.mono (by omega)))
        go_wp2
        refine bodyPost_ret (v := cmB ⟨id, c.k, c.s, c.t, c.d, c.p, c.q⟩ true) (by simp [results, Tryz.results90, go_sem, hsz, World.size_setCell, k0, k1, k2, k3, k4, k5, k6]) rfl ⟨?_, ?_⟩
        · rw [HF.out.1, HF.out.2, ← HI.out]
        · exact Below.alloc (((((((HW.out.setCell (Nat.le_refl _) _).setCell (Nat.le_refl _) _).setCell (Nat.le_refl _) _).setCell (Nat.le_refl _) _).setCell (Nat.le_refl _) _).setCell (Nat.le_refl _) _).setCell (Nat.le_refl _) _) (by simp; omega) _
      · have HI := hid hi
        go_wp2
        go_roundw
        case rel => exact ⟨k + 1, by omega, by go_num, not_next hak.out HC.out HI.out, hB.alloc (by omega) _⟩
        case measure => simp [intOf]; omega
    · have HF : Hid (foundC cs id = default ∧ foundB cs id = false) := found_none (place_none (by omega) hak.out)
      have HW := hid (((Below.refl w.heap.size w).alloc (Nat.le_refl _) (.cells #[.int .i64 0, .int .i64 0, .int .i64 0, .int .i64 0, .int .i64 0, .int .i64 0, .int .i64 0] 40)).trans (hB.mono (by omega)))
      go_wp2
      refine bodyPost_ret (v := cmB ⟨0, 0, 0, 0, 0, 0, 0⟩ false) (by simp [results, Tryz.results90, go_sem, k0, k1, k2, k3, k4, k5, k6]) rfl ⟨?_, ?_⟩
      · rw [HF.out.1, HF.out.2]; rfl
      · exact ((((((HW.out.setCell (Nat.le_refl _) _).setCell (Nat.le_refl _) _).setCell (Nat.le_refl _) _).setCell (Nat.le_refl _) _).setCell (Nat.le_refl _) _).setCell (Nat.le_refl _) _).setCell (Nat.le_refl _) _
end Go.Proofs.YtogoibigabpkhaaGreat
/- The document's Minus: what is left of a list without the names of another one. -/
namespace Go.Proofs.YtogoibigabpkhaaGreat
open Go.RowKit
open Go.Lib (hid)

end Go.Proofs.YtogoibigabpkhaaGreat
