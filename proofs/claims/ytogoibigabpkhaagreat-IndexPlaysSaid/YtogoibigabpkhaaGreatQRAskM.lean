import Derived.Test.YtogoibigabpkhaaGreatQAskM
import Derived.Test.YtogoibigabpkhaaGreatG24
import Derived.Test.YtogoibigabpkhaaGreatQNoteM
import Derived.Test.YtogoibigabpkhaaGreatG30
/- What is asked of the document's index: Pred, Holders, Killers, Absent. -/
namespace Go.Proofs.YtogoibigabpkhaaGreat
set_option linter.unusedVariables false
open Go.RowKit
open Go.Lib (hid)

set_option maxHeartbeats 1000000 in
set_option maxRecDepth 100000 in
theorem rTouches (e : Ev) (b : C7) (w : World) : Calls Tryz.prog 83 #[.agg e.arr, b.v] w fun r w' => r = .returned (.bool (touchB e.c b)) ∧ Below w.heap.size w w' := by
  obtain ⟨r, hr⟩ : ∃ r, r = touchB e.c b := ⟨_, rfl⟩
  rw [← hr]
  have HR := hid hr
  clear hr
  have h0 := laid2_0 w (.cells e.arr 74) (.cells #[.int .i64 b.i, .int .i64 b.k, .int .i64 b.s, .int .i64 b.t, .int .i64 b.d, .int .i64 b.p, .int .i64 b.q] 40)
  have h1 := laid2_1 w (.cells e.arr 74) (.cells #[.int .i64 b.i, .int .i64 b.k, .int .i64 b.s, .int .i64 b.t, .int .i64 b.d, .int .i64 b.p, .int .i64 b.q] 40)
  have hB := laid2_b w (.cells e.arr 74) (.cells #[.int .i64 b.i, .int .i64 b.k, .int .i64 b.s, .int .i64 b.t, .int .i64 b.d, .int .i64 b.p, .int .i64 b.q] 40)
  have a0 := (cellAt' h0 0).trans (show _ = some (Value.int .i64 e.c.i) from rfl)
  have a2 := (cellAt' h0 2).trans (show _ = some (Value.int .i64 e.c.s) from rfl)
  have b0 := (cellAt' h1 0).trans (show _ = some (Value.int .i64 b.i) from rfl)
  have b2 := (cellAt' h1 2).trans (show _ = some (Value.int .i64 b.s) from rfl)
  have HB := hid hB
  clear h0 h1 hB
  by_cases h1 : e.c.s = b.s
  · by_cases h2 : e.c.i = b.i
    · obtain rfl : r = false := by rw [HR.out]; simp [touchB, h2]
      have q1 : (e.c.s == b.s) = true := by simpa using h1
      have q2 : (e.c.i == b.i) = true := by simpa using h2
      clear h1 h2
      go_enter Tryz.func83, Tryz.ntmps83
      go_wp2
      go_ret
      exact ⟨by show Ending.returned (Value.bool (e.c.i != b.i)) = _; rw [bne, q2]; rfl, HB.out⟩
    · obtain rfl : r = true := by rw [HR.out]; simp [touchB, h1, h2]
      have q1 : (e.c.s == b.s) = true := by simpa using h1
      have q2 : (e.c.i == b.i) = false := by simpa using h2
      clear h1 h2
      go_enter Tryz.func83, Tryz.ntmps83
      go_wp2
      go_ret
      exact ⟨by show Ending.returned (Value.bool (e.c.i != b.i)) = _; rw [bne, q2]; rfl, HB.out⟩
  · obtain rfl : r = false := by rw [HR.out]; simp [touchB, h1]
    have q1 : (e.c.s == b.s) = false := by simpa using h1
    clear h1
    go_enter Tryz.func83, Tryz.ntmps83
    go_wp2
    go_ret
    exact ⟨rfl, HB.out⟩
/-- What is found so far. -/
abbrev selK (xs : List En) (c : C7) (P : En → Bool) (k : Nat) : List En := ((keptG En.id xs).take k).filter (sel c P)
theorem selK_next {xs : List En} {c : C7} {P : En → Bool} {k : Nat} {y : En} (h : (keptG En.id xs)[k]? = some y) : selK xs c P (k + 1) = if sel c P y = true then selK xs c P k ++ [y] else selK xs c P k := by
  unfold selK
  rw [List.take_add_one, h]
  simp only [Option.toList_some, List.filter_append, List.filter_cons, List.filter_nil]
  split <;> simp
theorem selK_len (xs : List En) (c : C7) (P : En → Bool) (k : Nat) : (selK xs c P k).length ≤ xs.length := by
  refine Nat.le_trans (List.length_filter_le _ _) ?_
  rw [List.length_take]
  exact Nat.le_trans (Nat.min_le_right _ _) (kept_lenG xs)
theorem kept_in {xs : List En} {k : Nat} {y : En} (h : (keptG En.id xs)[k]? = some y) : y ∈ xs := (look_key En.id xs _ y ((kept_mem En.id xs y).1 (List.mem_of_getElem? h))).2
theorem found_neg (cs : List C7) (i : Int) : (placeV cs i < 0 ↔ foundB cs i = false) := by
  rcases hp : placeI cs i with _ | k
  · rw [placeV_none hp, (found_none hp).2]; simp
  · rw [placeV_some hp]
    unfold foundB
    rw [hp]; simp
theorem ownI_below {w w' : World} {B : Nat} {v : Value} {l : List Int} (h : OwnI w B v l) (hb : Below w.heap.size w w') : OwnI w' B v l := own_below h hb fun k hk => (h.lt k hk).2
theorem wpList_apC {ops : Array Oper} {rest : List Oper} {op : Oper} {a : Act} {w : World} {Q : Exit → Act → World → Prop} {s x : Operand} {v : Value} {cs : List C7} {B q : Nat} (c : C7) (hgd : op.guard = none) (ho : op.op = .call { callee := .builtin .append, args := #[s, x], argTypes := #[36, 36] }) (hs : a.eval s = v) (hx : a.eval x = .slice (some ⟨q, 0, none⟩) 1 1)
    (hown : Own w B v cs) (hq : ∀ (j : Nat) u, c.cells[j]? = some u → w.cell? ((⟨q, 0, none⟩ : Addr).add j) = some u) (hl : cs.length ≤ 100000) (hB : B ≤ w.heap.size) (h : ∀ v' W, Own W B v' (cs ++ [c]) → w.grownBy W v.ownBlock → wpList Tryz.prog ops Q rest (a.put op.dst v') W) : wpList Tryz.prog ops Q (op :: rest) a w := by
  obtain ⟨i0, hi, hz0, hz1, hz2⟩ := info_parts Tryz.infoC
  refine wpList_append_own w hgd s x 36 ho B 40 i0 _ 7 56 Tryz.underlying36 hi hz0 hz1 hz2 rfl (by decide) v cs.length _ hs hown ⟨q, 0, none⟩ 1 1 c.cells hx rfl hq (cells_one c) (by unfold maxLen; omega) (by omega) hB ?_
  intro v' W hown' hg _
  exact h v' W (Own.more hown') hg
set_option maxHeartbeats 8000000 in
set_option maxRecDepth 100000 in
theorem rPred {w : World} {p : Nat} {nd c0 : Int} {v u : Value} {xs : List En} {ids : List Int} (h : Rx w p nd c0 v u (keptE xs) ids) (hlx : xs.length ≤ 20000) (hA : AllAt w xs) (hs : ∀ y ∈ xs, y.short 1024) (c : C7) (t : Int) : Calls Tryz.prog 47 #[ptr p, c.v, .int .i64 t] w fun e w' => ∃ r, e = .returned r ∧ Sl w' r (touchL xs c (fun y => aheadE y.e t)) ∧ Below w.heap.size w w' := by
  have HW : Hid (Below w.heap.size w (w.alloc (.cells #[.int .i64 c.i, .int .i64 c.k, .int .i64 c.s, .int .i64 c.t, .int .i64 c.d, .int .i64 c.p, .int .i64 c.q] 40))) := hid ((Below.refl _ w).alloc (Nat.le_refl _) _)
  have HCB : Hid ((w.alloc (.cells #[.int .i64 c.i, .int .i64 c.k, .int .i64 c.s, .int .i64 c.t, .int .i64 c.d, .int .i64 c.p, .int .i64 c.q] 40)).heap[w.heap.size]? = some (.cells #[.int .i64 c.i, .int .i64 c.k, .int .i64 c.s, .int .i64 c.t, .int .i64 c.d, .int .i64 c.p, .int .i64 c.q] 40 (0, 0))) := hid (heap_alloc_new w _)
  have HJ := hid (h.on HW.out)
  have HA := hid (fun y (hy : y ∈ xs) => (hA y hy).on HW.out)
  obtain ⟨m, hm⟩ : ∃ m, m = (keptG En.id xs).length := ⟨_, rfl⟩
  have HN := hid hm
  have HM := hid (show m ≤ 20000 by rw [hm]; exact Nat.le_trans (kept_lenG xs) hlx)
  obtain ⟨b, o, cap, a, rfl, ha, hc, hb⟩ := OwnG.slG kE HJ.out.es
  rw [show (keptE xs).length = m by rw [hm]; unfold keptE; rw [List.length_map]] at ha hb HJ h
  have HCC := hid hc
  clear h hA hm hc
  go_enter Tryz.func47, Tryz.ntmps47
  go_wp2_with fail
  generalize w.alloc (.cells #[.int .i64 c.i, .int .i64 c.k, .int .i64 c.s, .int .i64 c.t, .int .i64 c.d, .int .i64 c.p, .int .i64 c.q] 40) = W0 at HW HCB HJ HA HCC hb ⊢
  have HQ0 := hid (show w.heap.size < W0.heap.size from (Array.getElem?_eq_some_iff.1 HCB.out).1)
  go_loopw [7, 8] (fun u i wr => ∃ (k : Nat), k ≤ m ∧ i = .int .i64 k ∧ Own wr W0.heap.size u ((selK xs c (fun y => aheadE y.e t) k).map fun y => y.e.c) ∧ Below W0.heap.size W0 wr) (fun _ i _ => m - (RowKit.intOf i).toNat)
  case atStart => exact ⟨0, Nat.zero_le _, rfl, Own.nil _ _, Below.refl _ _⟩
  case round =>
    obtain ⟨k, hk, rfl, hown, hB⟩ := hrel
    have HO := hid hown
    have HB := hid hB
    have k2 := (HJ.out.on HB.out).cells.2.2.1
    obtain ⟨g0, cap0, n0, rfl, -⟩ := hown.asSlice
    clear hown hB
    have hmb : m ≤ 20000 := HM.out
    by_cases hlt : k < m
    · obtain rfl := ha (by omega)
      obtain ⟨y, hy⟩ : ∃ y, (keptG En.id xs)[k]? = some y := ⟨(keptG En.id xs)[k]'(by rw [← HN.out]; exact hlt), List.getElem?_eq_getElem (by rw [← HN.out]; exact hlt)⟩
      have hbw := hb (by omega)
      have hye : (keptE xs)[k]? = some y.e := by unfold keptE; rw [List.getElem?_map, hy]; rfl
      have HC : Hid (wr.rangeAt b (o + k * 19) y.e.list) := hid ((HCC.out.on HB.out fun _ => hbw) k y.e hye)
      have hin := kept_in hy
      have HY := hid hy
      have hsy := hs y hin
      have HYA := hid (fun W (hW : Below W0.heap.size W0 W) => (HA.out y hin).on hW)
      have HCK := hid (fun (W : World) (hW : Below W0.heap.size W0 W) => heapB HCB.out hW HQ0.out)
      have HLT := hid hlt
      have HLE : Hid (((selK xs c (fun y => aheadE y.e t) k).map fun y => y.e.c).length ≤ 20000) := hid (by have := selK_len xs c (fun y => aheadE y.e t) k; simp only [List.length_map]; omega)
      clear hy hye hin
      obtain ⟨tb, htb⟩ : ∃ tb, tb = touchB y.e.c c := ⟨_, rfl⟩
      have HTC := hid (fun W => rTouches y.e c W)
      rw [← htb] at HTC
      have HTB := hid htb
      clear htb
      obtain ⟨pb, hpb⟩ : ∃ pb, pb = aheadE y.e t := ⟨_, rfl⟩
      have HPC := hid (fun W => rAheadE y.e t W)
      rw [← hpb] at HPC
      have HPB := hid hpb
      clear hpb
      rcases tb with _ | _
      · go_wp2_with (first
          | ((with_reducible refine loadEl (T := 74) (x := ?lx1) (b := ?lb1) (o := ?lo1) uR iR y.e ?lg1 ?lp1 ?lxx1 ?lc1 ?_); (case lg1 => rfl); (case lp1 => rfl); (case lxx1 => rfl); (case lc1 => exact HC.out))
          | ((with_reducible refine storeR (x := ?sx1) (y := ?sy1) (b := wr.heap.size) (T := 74) y.e ?sg1 ?so1 ?sxx1 ?syy1 ?sc1 ?_); (case sg1 => rfl); (case so1 => rfl); (case sxx1 => rfl); (case syy1 => rfl); (case sc1 => exact ⟨_, heap_alloc_new wr zeroEr, rfl⟩); intro W4 hO4 hU4
             have hb4 : Below wr.heap.size wr W4 := ((Below.refl _ wr).alloc (Nat.le_refl _) zeroEr).trans (hU4.below _ (Nat.le_refl _))
             have HX4 := hid hO4
             have HO4 := hid (own_sl_below HO.out hb4)
             have HB4 := hid (HB.out.trans (hb4.mono HB.out.size))
             have hcc := HCK.out W4 HB4.out
             have c0 : W4.cell? ⟨w.heap.size, 0, none⟩ = some (.int .i64 c.i) := (cellAt' hcc 0).trans rfl; have c1 : W4.cell? ⟨w.heap.size, 1, none⟩ = some (.int .i64 c.k) := (cellAt' hcc 1).trans rfl; have c2 : W4.cell? ⟨w.heap.size, 2, none⟩ = some (.int .i64 c.s) := (cellAt' hcc 2).trans rfl; have c3 : W4.cell? ⟨w.heap.size, 3, none⟩ = some (.int .i64 c.t) := (cellAt' hcc 3).trans rfl; have c4 : W4.cell? ⟨w.heap.size, 4, none⟩ = some (.int .i64 c.d) := (cellAt' hcc 4).trans rfl; have c5 : W4.cell? ⟨w.heap.size, 5, none⟩ = some (.int .i64 c.p) := (cellAt' hcc 5).trans rfl; have c6 : W4.cell? ⟨w.heap.size, 6, none⟩ = some (.int .i64 c.q) := (cellAt' hcc 6).trans rfl
             clear hU4 hb4 hcc hO4)
          | ((with_reducible refine loadR (x := ?cx2) (b := wr.heap.size) (T := 74) y.e ?cg2 ?co2 ?cxx2 ?cc2 ?_); (case cg2 => rfl); (case co2 => rfl); (case cxx2 => rfl); (case cc2 => exact HX4.out))
          | (go_at_call 83; refine (HTC.out W4).mono ?_; rintro q W5 ⟨rfl, hb5⟩
             have HX5 : Hid (Ob W5 wr.heap.size 74 y.e) := hid (heapB HX4.out hb5 (Array.getElem?_eq_some_iff.1 HX4.out).1)
             have HO5 := hid (own_sl_below HO4.out hb5)
             have HB5 := hid (HB4.out.trans (hb5.mono HB4.out.size))
             clear hb5)
          | ((with_reducible refine loadR (x := ?cx3) (b := wr.heap.size) (T := 74) y.e ?cg3 ?co3 ?cxx3 ?cc3 ?_); (case cg3 => rfl); (case co3 => rfl); (case cxx3 => rfl); (case cc3 => exact HX5.out))
          | (go_at_call 84; refine (HPC.out W5).mono ?_; rintro q W6 ⟨rfl, hb6⟩
             have HX6 : Hid (Ob W6 wr.heap.size 74 y.e) := hid (heapB HX5.out hb6 (Array.getElem?_eq_some_iff.1 HX5.out).1)
             have HO6 := hid (own_sl_below HO5.out hb6)
             have HB6 := hid (HB5.out.trans (hb6.mono HB5.out.size))
             clear hb6)
          | fail)
        go_roundw
        case rel => exact ⟨k + 1, by have := HLT.out; omega, by go_num, by rw [selK_next HY.out, if_neg (by show ¬ (touchB y.e.c c && aheadE y.e t) = true; rw [← HTB.out]; simp)]; exact HO6.out, HB6.out⟩
        case measure => have := HLT.out; simp [RowKit.intOf]; omega
      · rcases pb with _ | _
        · go_wp2_with (first
            | ((with_reducible refine loadEl (T := 74) (x := ?lx1) (b := ?lb1) (o := ?lo1) uR iR y.e ?lg1 ?lp1 ?lxx1 ?lc1 ?_); (case lg1 => rfl); (case lp1 => rfl); (case lxx1 => rfl); (case lc1 => exact HC.out))
            | ((with_reducible refine storeR (x := ?sx1) (y := ?sy1) (b := wr.heap.size) (T := 74) y.e ?sg1 ?so1 ?sxx1 ?syy1 ?sc1 ?_); (case sg1 => rfl); (case so1 => rfl); (case sxx1 => rfl); (case syy1 => rfl); (case sc1 => exact ⟨_, heap_alloc_new wr zeroEr, rfl⟩); intro W4 hO4 hU4
               have hb4 : Below wr.heap.size wr W4 := ((Below.refl _ wr).alloc (Nat.le_refl _) zeroEr).trans (hU4.below _ (Nat.le_refl _))
               have HX4 := hid hO4
               have HO4 := hid (own_sl_below HO.out hb4)
               have HB4 := hid (HB.out.trans (hb4.mono HB.out.size))
               have hcc := HCK.out W4 HB4.out
               have c0 : W4.cell? ⟨w.heap.size, 0, none⟩ = some (.int .i64 c.i) := (cellAt' hcc 0).trans rfl; have c1 : W4.cell? ⟨w.heap.size, 1, none⟩ = some (.int .i64 c.k) := (cellAt' hcc 1).trans rfl; have c2 : W4.cell? ⟨w.heap.size, 2, none⟩ = some (.int .i64 c.s) := (cellAt' hcc 2).trans rfl; have c3 : W4.cell? ⟨w.heap.size, 3, none⟩ = some (.int .i64 c.t) := (cellAt' hcc 3).trans rfl; have c4 : W4.cell? ⟨w.heap.size, 4, none⟩ = some (.int .i64 c.d) := (cellAt' hcc 4).trans rfl; have c5 : W4.cell? ⟨w.heap.size, 5, none⟩ = some (.int .i64 c.p) := (cellAt' hcc 5).trans rfl; have c6 : W4.cell? ⟨w.heap.size, 6, none⟩ = some (.int .i64 c.q) := (cellAt' hcc 6).trans rfl
               clear hU4 hb4 hcc hO4)
            | ((with_reducible refine loadR (x := ?cx2) (b := wr.heap.size) (T := 74) y.e ?cg2 ?co2 ?cxx2 ?cc2 ?_); (case cg2 => rfl); (case co2 => rfl); (case cxx2 => rfl); (case cc2 => exact HX4.out))
            | (go_at_call 83; refine (HTC.out W4).mono ?_; rintro q W5 ⟨rfl, hb5⟩
               have HX5 : Hid (Ob W5 wr.heap.size 74 y.e) := hid (heapB HX4.out hb5 (Array.getElem?_eq_some_iff.1 HX4.out).1)
               have HO5 := hid (own_sl_below HO4.out hb5)
               have HB5 := hid (HB4.out.trans (hb5.mono HB4.out.size))
               clear hb5)
            | ((with_reducible refine loadR (x := ?cx3) (b := wr.heap.size) (T := 74) y.e ?cg3 ?co3 ?cxx3 ?cc3 ?_); (case cg3 => rfl); (case co3 => rfl); (case cxx3 => rfl); (case cc3 => exact HX5.out))
            | (go_at_call 84; refine (HPC.out W5).mono ?_; rintro q W6 ⟨rfl, hb6⟩
               have HX6 : Hid (Ob W6 wr.heap.size 74 y.e) := hid (heapB HX5.out hb6 (Array.getElem?_eq_some_iff.1 HX5.out).1)
               have HO6 := hid (own_sl_below HO5.out hb6)
               have HB6 := hid (HB5.out.trans (hb6.mono HB5.out.size))
               clear hb6)
            | fail)
          go_roundw
          case rel => exact ⟨k + 1, by have := HLT.out; omega, by go_num, by rw [selK_next HY.out, if_neg (by show ¬ (touchB y.e.c c && aheadE y.e t) = true; rw [← HTB.out, ← HPB.out]; decide)]; exact HO6.out, HB6.out⟩
          case measure => have := HLT.out; simp [RowKit.intOf]; omega
        · go_wp2_with (first
            | ((with_reducible refine loadEl (T := 74) (x := ?lx1) (b := ?lb1) (o := ?lo1) uR iR y.e ?lg1 ?lp1 ?lxx1 ?lc1 ?_); (case lg1 => rfl); (case lp1 => rfl); (case lxx1 => rfl); (case lc1 => exact HC.out))
            | ((with_reducible refine storeR (x := ?sx1) (y := ?sy1) (b := wr.heap.size) (T := 74) y.e ?sg1 ?so1 ?sxx1 ?syy1 ?sc1 ?_); (case sg1 => rfl); (case so1 => rfl); (case sxx1 => rfl); (case syy1 => rfl); (case sc1 => exact ⟨_, heap_alloc_new wr zeroEr, rfl⟩); intro W4 hO4 hU4
               have hb4 : Below wr.heap.size wr W4 := ((Below.refl _ wr).alloc (Nat.le_refl _) zeroEr).trans (hU4.below _ (Nat.le_refl _))
               have HX4 := hid hO4
               have HO4 := hid (own_sl_below HO.out hb4)
               have HB4 := hid (HB.out.trans (hb4.mono HB.out.size))
               have hcc := HCK.out W4 HB4.out
               have c0 : W4.cell? ⟨w.heap.size, 0, none⟩ = some (.int .i64 c.i) := (cellAt' hcc 0).trans rfl; have c1 : W4.cell? ⟨w.heap.size, 1, none⟩ = some (.int .i64 c.k) := (cellAt' hcc 1).trans rfl; have c2 : W4.cell? ⟨w.heap.size, 2, none⟩ = some (.int .i64 c.s) := (cellAt' hcc 2).trans rfl; have c3 : W4.cell? ⟨w.heap.size, 3, none⟩ = some (.int .i64 c.t) := (cellAt' hcc 3).trans rfl; have c4 : W4.cell? ⟨w.heap.size, 4, none⟩ = some (.int .i64 c.d) := (cellAt' hcc 4).trans rfl; have c5 : W4.cell? ⟨w.heap.size, 5, none⟩ = some (.int .i64 c.p) := (cellAt' hcc 5).trans rfl; have c6 : W4.cell? ⟨w.heap.size, 6, none⟩ = some (.int .i64 c.q) := (cellAt' hcc 6).trans rfl
               clear hU4 hb4 hcc hO4)
            | ((with_reducible refine loadR (x := ?cx2) (b := wr.heap.size) (T := 74) y.e ?cg2 ?co2 ?cxx2 ?cc2 ?_); (case cg2 => rfl); (case co2 => rfl); (case cxx2 => rfl); (case cc2 => exact HX4.out))
            | (go_at_call 83; refine (HTC.out W4).mono ?_; rintro q W5 ⟨rfl, hb5⟩
               have HX5 : Hid (Ob W5 wr.heap.size 74 y.e) := hid (heapB HX4.out hb5 (Array.getElem?_eq_some_iff.1 HX4.out).1)
               have HO5 := hid (own_sl_below HO4.out hb5)
               have HB5 := hid (HB4.out.trans (hb5.mono HB4.out.size))
               clear hb5)
            | ((with_reducible refine loadR (x := ?cx3) (b := wr.heap.size) (T := 74) y.e ?cg3 ?co3 ?cxx3 ?cc3 ?_); (case cg3 => rfl); (case co3 => rfl); (case cxx3 => rfl); (case cc3 => exact HX5.out))
            | (go_at_call 84; refine (HPC.out W5).mono ?_; rintro q W6 ⟨rfl, hb6⟩
               have HX6 : Hid (Ob W6 wr.heap.size 74 y.e) := hid (heapB HX5.out hb6 (Array.getElem?_eq_some_iff.1 HX5.out).1)
               have HO6 := hid (own_sl_below HO5.out hb6)
               have HB6 := hid (HB5.out.trans (hb6.mono HB5.out.size))
               have f0 := HX6.out.cell (j := 0) (v := .int .i64 y.e.c.i) rfl; have f1 := HX6.out.cell (j := 1) (v := .int .i64 y.e.c.k) rfl; have f2 := HX6.out.cell (j := 2) (v := .int .i64 y.e.c.s) rfl; have f3 := HX6.out.cell (j := 3) (v := .int .i64 y.e.c.t) rfl; have f4 := HX6.out.cell (j := 4) (v := .int .i64 y.e.c.d) rfl; have f5 := HX6.out.cell (j := 5) (v := .int .i64 y.e.c.p) rfl; have f6 := HX6.out.cell (j := 6) (v := .int .i64 y.e.c.q) rfl
               clear hb6)
            | (at_builtin; (with_reducible refine wpList_apC (s := ?as0) (x := ?ax0) (cs := ((selK xs c (fun y => aheadE y.e t) k).map fun y => y.e.c)) (B := W0.heap.size) (q := W6.heap.size) y.e.c ?ag0 ?ao0 ?av0 ?aw0 (HO6.out.alloc _) (new_cell rfl) (by have := HLE.out; omega) (by have := HB6.out.size; (try rw [World.size_alloc]); omega) ?_); (case ag0 => rfl); (case ao0 => rfl); (case av0 => rfl); (case aw0 => rfl); intro v9 W9 hO9 hg9; have HB9 := hid ((HB6.out.alloc HB6.out.size _).grown hg9 (by have := HB6.out.size; (try rw [World.size_alloc]); omega) (fun j hj => (HO6.out.lt j hj).1)); have HN9 := hid hO9; obtain ⟨g9, cap9, n9, rfl, -⟩ := hO9.asSlice; clear hO9 hg9)
            | fail)
          go_roundw
          case rel => exact ⟨k + 1, by have := HLT.out; omega, by go_num, by rw [selK_next HY.out, if_pos (by show (touchB y.e.c c && aheadE y.e t) = true; rw [← HTB.out, ← HPB.out]; rfl), List.map_append]; exact HN9.out, HB9.out⟩
          case measure => have := HLT.out; simp [RowKit.intOf]; omega
    · have hkm : k = m := by omega
      subst hkm
      have HF : Hid (Own wr W0.heap.size (.slice g0 n0 cap0) (((keptG En.id xs).filter (sel c (fun y => aheadE y.e t))).map fun y => y.e.c)) := hid (by have := HO.out; unfold selK at this; rw [HN.out, List.take_length] at this; exact this)
      go_wp2_with fail
      go_ret
      exact ⟨_, rfl, Own.sl HF.out, HW.out.trans (HB.out.mono (by have := HQ0.out; omega))⟩
set_option maxHeartbeats 8000000 in
set_option maxRecDepth 100000 in
theorem rHolders {w : World} {p : Nat} {nd c0 : Int} {v u : Value} {xs : List En} {ids : List Int} (h : Rx w p nd c0 v u (keptE xs) ids) (hlx : xs.length ≤ 20000) (hA : AllAt w xs) (hs : ∀ y ∈ xs, y.short 1024) (c : C7) (t : Int) : Calls Tryz.prog 48 #[ptr p, c.v, .int .i64 t] w fun e w' => ∃ r, e = .returned r ∧ OwnI w' w.heap.size r (idsL (touchL xs c (fun y => holdsE y.e t))) ∧ Below w.heap.size w w' := by
  have HW : Hid (Below w.heap.size w (w.alloc (.cells #[.int .i64 c.i, .int .i64 c.k, .int .i64 c.s, .int .i64 c.t, .int .i64 c.d, .int .i64 c.p, .int .i64 c.q] 40))) := hid ((Below.refl _ w).alloc (Nat.le_refl _) _)
  have HCB : Hid ((w.alloc (.cells #[.int .i64 c.i, .int .i64 c.k, .int .i64 c.s, .int .i64 c.t, .int .i64 c.d, .int .i64 c.p, .int .i64 c.q] 40)).heap[w.heap.size]? = some (.cells #[.int .i64 c.i, .int .i64 c.k, .int .i64 c.s, .int .i64 c.t, .int .i64 c.d, .int .i64 c.p, .int .i64 c.q] 40 (0, 0))) := hid (heap_alloc_new w _)
  have HJ := hid (h.on HW.out)
  have HA := hid (fun y (hy : y ∈ xs) => (hA y hy).on HW.out)
  obtain ⟨m, hm⟩ : ∃ m, m = (keptG En.id xs).length := ⟨_, rfl⟩
  have HN := hid hm
  have HM := hid (show m ≤ 20000 by rw [hm]; exact Nat.le_trans (kept_lenG xs) hlx)
  obtain ⟨b, o, cap, a, rfl, ha, hc, hb⟩ := OwnG.slG kE HJ.out.es
  rw [show (keptE xs).length = m by rw [hm]; unfold keptE; rw [List.length_map]] at ha hb HJ h
  have HCC := hid hc
  clear h hA hm hc
  go_enter Tryz.func48, Tryz.ntmps48
  go_wp2_with fail
  generalize w.alloc (.cells #[.int .i64 c.i, .int .i64 c.k, .int .i64 c.s, .int .i64 c.t, .int .i64 c.d, .int .i64 c.p, .int .i64 c.q] 40) = W0 at HW HCB HJ HA HCC hb ⊢
  have HQ0 := hid (show w.heap.size < W0.heap.size from (Array.getElem?_eq_some_iff.1 HCB.out).1)
  go_loopw [7, 8] (fun u i wr => ∃ (k : Nat), k ≤ m ∧ i = .int .i64 k ∧ OwnI wr W0.heap.size u (idsL ((selK xs c (fun y => holdsE y.e t) k).map fun y => y.e.c)) ∧ Below W0.heap.size W0 wr) (fun _ i _ => m - (RowKit.intOf i).toNat)
  case atStart => exact ⟨0, Nat.zero_le _, rfl, OwnI.nil _ _, Below.refl _ _⟩
  case round =>
    obtain ⟨k, hk, rfl, hown, hB⟩ := hrel
    have HO := hid hown
    have HB := hid hB
    have k2 := (HJ.out.on HB.out).cells.2.2.1
    obtain ⟨g0, cap0, n0, rfl, -⟩ := hown.asSlice'
    clear hown hB
    have hmb : m ≤ 20000 := HM.out
    by_cases hlt : k < m
    · obtain rfl := ha (by omega)
      obtain ⟨y, hy⟩ : ∃ y, (keptG En.id xs)[k]? = some y := ⟨(keptG En.id xs)[k]'(by rw [← HN.out]; exact hlt), List.getElem?_eq_getElem (by rw [← HN.out]; exact hlt)⟩
      have hbw := hb (by omega)
      have hye : (keptE xs)[k]? = some y.e := by unfold keptE; rw [List.getElem?_map, hy]; rfl
      have HC : Hid (wr.rangeAt b (o + k * 19) y.e.list) := hid ((HCC.out.on HB.out fun _ => hbw) k y.e hye)
      have hin := kept_in hy
      have HY := hid hy
      have hsy := hs y hin
      have HYA := hid (fun W (hW : Below W0.heap.size W0 W) => (HA.out y hin).on hW)
      have HCK := hid (fun (W : World) (hW : Below W0.heap.size W0 W) => heapB HCB.out hW HQ0.out)
      have HLT := hid hlt
      have HLE : Hid ((idsL ((selK xs c (fun y => holdsE y.e t) k).map fun y => y.e.c)).length ≤ 20000) := hid (by have := selK_len xs c (fun y => holdsE y.e t) k; unfold idsL; simp only [List.length_map]; omega)
      clear hy hye hin
      obtain ⟨tb, htb⟩ : ∃ tb, tb = touchB y.e.c c := ⟨_, rfl⟩
      have HTC := hid (fun W => rTouches y.e c W)
      rw [← htb] at HTC
      have HTB := hid htb
      clear htb
      obtain ⟨pb, hpb⟩ : ∃ pb, pb = holdsE y.e t := ⟨_, rfl⟩
      have HPC := hid (fun W => rHoldsE y.e t W)
      rw [← hpb] at HPC
      have HPB := hid hpb
      clear hpb
      rcases tb with _ | _
      · go_wp2_with (first
          | ((with_reducible refine loadEl (T := 74) (x := ?lx1) (b := ?lb1) (o := ?lo1) uR iR y.e ?lg1 ?lp1 ?lxx1 ?lc1 ?_); (case lg1 => rfl); (case lp1 => rfl); (case lxx1 => rfl); (case lc1 => exact HC.out))
          | ((with_reducible refine storeR (x := ?sx1) (y := ?sy1) (b := wr.heap.size) (T := 74) y.e ?sg1 ?so1 ?sxx1 ?syy1 ?sc1 ?_); (case sg1 => rfl); (case so1 => rfl); (case sxx1 => rfl); (case syy1 => rfl); (case sc1 => exact ⟨_, heap_alloc_new wr zeroEr, rfl⟩); intro W4 hO4 hU4
             have hb4 : Below wr.heap.size wr W4 := ((Below.refl _ wr).alloc (Nat.le_refl _) zeroEr).trans (hU4.below _ (Nat.le_refl _))
             have HX4 := hid hO4
             have HO4 := hid (ownI_below HO.out hb4)
             have HB4 := hid (HB.out.trans (hb4.mono HB.out.size))
             have hcc := HCK.out W4 HB4.out
             have c0 : W4.cell? ⟨w.heap.size, 0, none⟩ = some (.int .i64 c.i) := (cellAt' hcc 0).trans rfl; have c1 : W4.cell? ⟨w.heap.size, 1, none⟩ = some (.int .i64 c.k) := (cellAt' hcc 1).trans rfl; have c2 : W4.cell? ⟨w.heap.size, 2, none⟩ = some (.int .i64 c.s) := (cellAt' hcc 2).trans rfl; have c3 : W4.cell? ⟨w.heap.size, 3, none⟩ = some (.int .i64 c.t) := (cellAt' hcc 3).trans rfl; have c4 : W4.cell? ⟨w.heap.size, 4, none⟩ = some (.int .i64 c.d) := (cellAt' hcc 4).trans rfl; have c5 : W4.cell? ⟨w.heap.size, 5, none⟩ = some (.int .i64 c.p) := (cellAt' hcc 5).trans rfl; have c6 : W4.cell? ⟨w.heap.size, 6, none⟩ = some (.int .i64 c.q) := (cellAt' hcc 6).trans rfl
             clear hU4 hb4 hcc hO4)
          | ((with_reducible refine loadR (x := ?cx2) (b := wr.heap.size) (T := 74) y.e ?cg2 ?co2 ?cxx2 ?cc2 ?_); (case cg2 => rfl); (case co2 => rfl); (case cxx2 => rfl); (case cc2 => exact HX4.out))
          | (go_at_call 83; refine (HTC.out W4).mono ?_; rintro q W5 ⟨rfl, hb5⟩
             have HX5 : Hid (Ob W5 wr.heap.size 74 y.e) := hid (heapB HX4.out hb5 (Array.getElem?_eq_some_iff.1 HX4.out).1)
             have HO5 := hid (ownI_below HO4.out hb5)
             have HB5 := hid (HB4.out.trans (hb5.mono HB4.out.size))
             clear hb5)
          | ((with_reducible refine loadR (x := ?cx3) (b := wr.heap.size) (T := 74) y.e ?cg3 ?co3 ?cxx3 ?cc3 ?_); (case cg3 => rfl); (case co3 => rfl); (case cxx3 => rfl); (case cc3 => exact HX5.out))
          | (go_at_call 85; refine (HPC.out W5).mono ?_; rintro q W6 ⟨rfl, hb6⟩
             have HX6 : Hid (Ob W6 wr.heap.size 74 y.e) := hid (heapB HX5.out hb6 (Array.getElem?_eq_some_iff.1 HX5.out).1)
             have HO6 := hid (ownI_below HO5.out hb6)
             have HB6 := hid (HB5.out.trans (hb6.mono HB5.out.size))
             clear hb6)
          | fail)
        go_roundw
        case rel => exact ⟨k + 1, by have := HLT.out; omega, by go_num, by rw [selK_next HY.out, if_neg (by show ¬ (touchB y.e.c c && holdsE y.e t) = true; rw [← HTB.out]; simp)]; exact HO6.out, HB6.out⟩
        case measure => have := HLT.out; simp [RowKit.intOf]; omega
      · rcases pb with _ | _
        · go_wp2_with (first
            | ((with_reducible refine loadEl (T := 74) (x := ?lx1) (b := ?lb1) (o := ?lo1) uR iR y.e ?lg1 ?lp1 ?lxx1 ?lc1 ?_); (case lg1 => rfl); (case lp1 => rfl); (case lxx1 => rfl); (case lc1 => exact HC.out))
            | ((with_reducible refine storeR (x := ?sx1) (y := ?sy1) (b := wr.heap.size) (T := 74) y.e ?sg1 ?so1 ?sxx1 ?syy1 ?sc1 ?_); (case sg1 => rfl); (case so1 => rfl); (case sxx1 => rfl); (case syy1 => rfl); (case sc1 => exact ⟨_, heap_alloc_new wr zeroEr, rfl⟩); intro W4 hO4 hU4
               have hb4 : Below wr.heap.size wr W4 := ((Below.refl _ wr).alloc (Nat.le_refl _) zeroEr).trans (hU4.below _ (Nat.le_refl _))
               have HX4 := hid hO4
               have HO4 := hid (ownI_below HO.out hb4)
               have HB4 := hid (HB.out.trans (hb4.mono HB.out.size))
               have hcc := HCK.out W4 HB4.out
               have c0 : W4.cell? ⟨w.heap.size, 0, none⟩ = some (.int .i64 c.i) := (cellAt' hcc 0).trans rfl; have c1 : W4.cell? ⟨w.heap.size, 1, none⟩ = some (.int .i64 c.k) := (cellAt' hcc 1).trans rfl; have c2 : W4.cell? ⟨w.heap.size, 2, none⟩ = some (.int .i64 c.s) := (cellAt' hcc 2).trans rfl; have c3 : W4.cell? ⟨w.heap.size, 3, none⟩ = some (.int .i64 c.t) := (cellAt' hcc 3).trans rfl; have c4 : W4.cell? ⟨w.heap.size, 4, none⟩ = some (.int .i64 c.d) := (cellAt' hcc 4).trans rfl; have c5 : W4.cell? ⟨w.heap.size, 5, none⟩ = some (.int .i64 c.p) := (cellAt' hcc 5).trans rfl; have c6 : W4.cell? ⟨w.heap.size, 6, none⟩ = some (.int .i64 c.q) := (cellAt' hcc 6).trans rfl
               clear hU4 hb4 hcc hO4)
            | ((with_reducible refine loadR (x := ?cx2) (b := wr.heap.size) (T := 74) y.e ?cg2 ?co2 ?cxx2 ?cc2 ?_); (case cg2 => rfl); (case co2 => rfl); (case cxx2 => rfl); (case cc2 => exact HX4.out))
            | (go_at_call 83; refine (HTC.out W4).mono ?_; rintro q W5 ⟨rfl, hb5⟩
               have HX5 : Hid (Ob W5 wr.heap.size 74 y.e) := hid (heapB HX4.out hb5 (Array.getElem?_eq_some_iff.1 HX4.out).1)
               have HO5 := hid (ownI_below HO4.out hb5)
               have HB5 := hid (HB4.out.trans (hb5.mono HB4.out.size))
               clear hb5)
            | ((with_reducible refine loadR (x := ?cx3) (b := wr.heap.size) (T := 74) y.e ?cg3 ?co3 ?cxx3 ?cc3 ?_); (case cg3 => rfl); (case co3 => rfl); (case cxx3 => rfl); (case cc3 => exact HX5.out))
            | (go_at_call 85; refine (HPC.out W5).mono ?_; rintro q W6 ⟨rfl, hb6⟩
               have HX6 : Hid (Ob W6 wr.heap.size 74 y.e) := hid (heapB HX5.out hb6 (Array.getElem?_eq_some_iff.1 HX5.out).1)
               have HO6 := hid (ownI_below HO5.out hb6)
               have HB6 := hid (HB5.out.trans (hb6.mono HB5.out.size))
               clear hb6)
            | fail)
          go_roundw
          case rel => exact ⟨k + 1, by have := HLT.out; omega, by go_num, by rw [selK_next HY.out, if_neg (by show ¬ (touchB y.e.c c && holdsE y.e t) = true; rw [← HTB.out, ← HPB.out]; decide)]; exact HO6.out, HB6.out⟩
          case measure => have := HLT.out; simp [RowKit.intOf]; omega
        · go_wp2_with (first
            | ((with_reducible refine loadEl (T := 74) (x := ?lx1) (b := ?lb1) (o := ?lo1) uR iR y.e ?lg1 ?lp1 ?lxx1 ?lc1 ?_); (case lg1 => rfl); (case lp1 => rfl); (case lxx1 => rfl); (case lc1 => exact HC.out))
            | ((with_reducible refine storeR (x := ?sx1) (y := ?sy1) (b := wr.heap.size) (T := 74) y.e ?sg1 ?so1 ?sxx1 ?syy1 ?sc1 ?_); (case sg1 => rfl); (case so1 => rfl); (case sxx1 => rfl); (case syy1 => rfl); (case sc1 => exact ⟨_, heap_alloc_new wr zeroEr, rfl⟩); intro W4 hO4 hU4
               have hb4 : Below wr.heap.size wr W4 := ((Below.refl _ wr).alloc (Nat.le_refl _) zeroEr).trans (hU4.below _ (Nat.le_refl _))
               have HX4 := hid hO4
               have HO4 := hid (ownI_below HO.out hb4)
               have HB4 := hid (HB.out.trans (hb4.mono HB.out.size))
               have hcc := HCK.out W4 HB4.out
               have c0 : W4.cell? ⟨w.heap.size, 0, none⟩ = some (.int .i64 c.i) := (cellAt' hcc 0).trans rfl; have c1 : W4.cell? ⟨w.heap.size, 1, none⟩ = some (.int .i64 c.k) := (cellAt' hcc 1).trans rfl; have c2 : W4.cell? ⟨w.heap.size, 2, none⟩ = some (.int .i64 c.s) := (cellAt' hcc 2).trans rfl; have c3 : W4.cell? ⟨w.heap.size, 3, none⟩ = some (.int .i64 c.t) := (cellAt' hcc 3).trans rfl; have c4 : W4.cell? ⟨w.heap.size, 4, none⟩ = some (.int .i64 c.d) := (cellAt' hcc 4).trans rfl; have c5 : W4.cell? ⟨w.heap.size, 5, none⟩ = some (.int .i64 c.p) := (cellAt' hcc 5).trans rfl; have c6 : W4.cell? ⟨w.heap.size, 6, none⟩ = some (.int .i64 c.q) := (cellAt' hcc 6).trans rfl
               clear hU4 hb4 hcc hO4)
            | ((with_reducible refine loadR (x := ?cx2) (b := wr.heap.size) (T := 74) y.e ?cg2 ?co2 ?cxx2 ?cc2 ?_); (case cg2 => rfl); (case co2 => rfl); (case cxx2 => rfl); (case cc2 => exact HX4.out))
            | (go_at_call 83; refine (HTC.out W4).mono ?_; rintro q W5 ⟨rfl, hb5⟩
               have HX5 : Hid (Ob W5 wr.heap.size 74 y.e) := hid (heapB HX4.out hb5 (Array.getElem?_eq_some_iff.1 HX4.out).1)
               have HO5 := hid (ownI_below HO4.out hb5)
               have HB5 := hid (HB4.out.trans (hb5.mono HB4.out.size))
               clear hb5)
            | ((with_reducible refine loadR (x := ?cx3) (b := wr.heap.size) (T := 74) y.e ?cg3 ?co3 ?cxx3 ?cc3 ?_); (case cg3 => rfl); (case co3 => rfl); (case cxx3 => rfl); (case cc3 => exact HX5.out))
            | (go_at_call 85; refine (HPC.out W5).mono ?_; rintro q W6 ⟨rfl, hb6⟩
               have HX6 : Hid (Ob W6 wr.heap.size 74 y.e) := hid (heapB HX5.out hb6 (Array.getElem?_eq_some_iff.1 HX5.out).1)
               have HO6 := hid (ownI_below HO5.out hb6)
               have HB6 := hid (HB5.out.trans (hb6.mono HB5.out.size))
               have f0 := HX6.out.cell (j := 0) (v := .int .i64 y.e.c.i) rfl; have f1 := HX6.out.cell (j := 1) (v := .int .i64 y.e.c.k) rfl; have f2 := HX6.out.cell (j := 2) (v := .int .i64 y.e.c.s) rfl; have f3 := HX6.out.cell (j := 3) (v := .int .i64 y.e.c.t) rfl; have f4 := HX6.out.cell (j := 4) (v := .int .i64 y.e.c.d) rfl; have f5 := HX6.out.cell (j := 5) (v := .int .i64 y.e.c.p) rfl; have f6 := HX6.out.cell (j := 6) (v := .int .i64 y.e.c.q) rfl
               clear hb6)
            | (at_builtin; (with_reducible refine wpList_apI (s := ?as0) (x := ?ax0) (l := (idsL ((selK xs c (fun y => holdsE y.e t) k).map fun y => y.e.c))) (B := W0.heap.size) (q := W6.heap.size) y.e.c.i ?ag0 ?ao0 ?av0 ?aw0 (HO6.out.alloc _) (cellNewI _ _) (by have := HLE.out; omega) (by have := HB6.out.size; (try rw [World.size_alloc]); omega) ?_); (case ag0 => rfl); (case ao0 => rfl); (case av0 => rfl); (case aw0 => rfl); intro v9 W9 hO9 hg9; have HB9 := hid ((HB6.out.alloc HB6.out.size _).grown hg9 (by have := HB6.out.size; (try rw [World.size_alloc]); omega) (fun j hj => (HO6.out.lt j hj).1)); have HN9 := hid hO9; obtain ⟨g9, cap9, n9, rfl, -⟩ := hO9.asSlice'; clear hO9 hg9)
            | fail)
          go_roundw
          case rel => exact ⟨k + 1, by have := HLT.out; omega, by go_num, by rw [selK_next HY.out, if_pos (by show (touchB y.e.c c && holdsE y.e t) = true; rw [← HTB.out, ← HPB.out]; rfl), List.map_append]; unfold idsL; rw [List.map_append]; exact HN9.out, HB9.out⟩
          case measure => have := HLT.out; simp [RowKit.intOf]; omega
    · have hkm : k = m := by omega
      subst hkm
      have HF : Hid (OwnI wr W0.heap.size (.slice g0 n0 cap0) (idsL (((keptG En.id xs).filter (sel c (fun y => holdsE y.e t))).map fun y => y.e.c))) := hid (by have := HO.out; unfold selK at this; rw [HN.out, List.take_length] at this; exact this)
      go_wp2_with fail
      go_ret
      exact ⟨_, rfl, own_monoB HF.out (by have := HQ0.out; omega), HW.out.trans (HB.out.mono (by have := HQ0.out; omega))⟩
end Go.Proofs.YtogoibigabpkhaaGreat
