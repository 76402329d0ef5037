import Derived.Test.YtlehcaacfgocaaaGreatVDecideZm
import Derived.Laws.CopyOwn
import Derived.Laws.IdiomCopy
import Derived.Laws.NewBlocks
namespace Go.Proofs.YtlehcaacfgocaaaGreat
set_option linter.unusedVariables false
open Go.RowKit
open Go.Lib (hid)
theorem splice_mid {α : Type} {L : List α} {off m : Nat} {cs : List α} (h : off ≤ L.length) (hm : m = off + cs.length) : (splice L off cs).take m = L.take off ++ cs := by
  subst hm
  unfold splice
  rw [← List.append_assoc, List.take_append_of_le_length (by simp; omega)]
  exact List.take_of_length_le (by simp; omega)
theorem splice_low {α : Type} {L : List α} {off m : Nat} {cs : List α} (h : off ≤ L.length) (hm : m ≤ off) : (splice L off cs).take m = L.take m := by
  unfold splice
  rw [List.take_append_of_le_length (by simp; omega), List.take_take, Nat.min_eq_left hm]
theorem splice_len {α : Type} {L : List α} {off : Nat} {cs : List α} (h : off + cs.length ≤ L.length) : (splice L off cs).length = L.length := length_splice L off cs h
theorem setCells_row {w : World} {g : Nat} {cur : Array Value} {t : TypeId} (hg : w.heap[g]? = some (.cells cur t (0, 0))) (vs : List Value) (o : Nat) (h : o + vs.length ≤ cur.size) (h1 : ∀ v ∈ vs, v.oneCell' = true) :
    w.setCells g o vs = w.setRow g (splice cur.toList o vs).toArray := by
  have a := run_storeCells_at Tryz.prog g o t vs 0 cur w hg (by simpa using h) h1
  have b := run_storeCells_cells (P := Tryz.prog) g o vs 0 w (fun j hj => by rw [cellAt' hg]; simp; omega) (fun j hj => by simp [World.frozen?, hg]) h1
  rw [a] at b
  injection b with _ b
  simpa [splice] using b.symm
theorem flat_take (l : List Mg) (k : Nat) : (flatG Mg.list l).take (k * 20) = flatG Mg.list (l.take k) := by
  induction l generalizing k with
  | nil => simp [flatG]
  | cons x xs ih =>
    cases k with
    | zero => simp [flatG]
    | succ k =>
      rw [List.take_succ_cons, flatG_cons, flatG_cons, ← ih k, show (k + 1) * 20 = 20 + k * 20 by omega]
      rw [List.take_append, kM, List.take_of_length_le (by rw [kM]; omega), show 20 + k * 20 - 20 = k * 20 by omega]
theorem flat_drop (l : List Mg) (k : Nat) : (flatG Mg.list l).drop (k * 20) = flatG Mg.list (l.drop k) := by
  induction l generalizing k with
  | nil => simp [flatG]
  | cons x xs ih =>
    cases k with
    | zero => simp [flatG]
    | succ k =>
      rw [List.drop_succ_cons, flatG_cons, ← ih k, show (k + 1) * 20 = 20 + k * 20 by omega]
      rw [List.drop_append, kM, List.drop_eq_nil_of_le (by rw [kM]; omega), show 20 + k * 20 - 20 = k * 20 by omega, List.nil_append]
theorem tch_setRow (w : World) (g : Nat) (cs : Array Value) : Tch (fun k => k = g) w (w.setRow g cs) := ⟨rfl, rfl, rfl, by simp [World.setRow], fun k _ hk => setRow_other w g k cs hk⟩
theorem zero_len (m : Nat) : (Builtin.zeroCells zM.arr m).toList.length = m * 20 := by simp [Builtin.zeroCells, Mg.size]
theorem zero_one (m : Nat) : ∀ u ∈ (Builtin.zeroCells zM.arr m).toList, u.oneCell' = true := fun u hu => by
  simp only [Builtin.zeroCells, Array.toList_map, List.mem_map] at hu
  obtain ⟨k, hk, rfl⟩ := hu
  have hlt : k % zM.arr.size < zM.arr.size := Nat.mod_lt _ (by rw [Mg.size]; decide)
  rw [getElem!_pos zM.arr _ hlt]
  exact Mg.one' zM _ (by rw [← Mg.toList]; exact Array.getElem_mem_toList hlt)
theorem run_clearM (w : World) (ty : TypeId) (g o c m : Nat) (cur : Array Value) (t : TypeId) (hg : w.heap[g]? = some (.cells cur t (0, 0))) (hfit : o + m * 20 ≤ cur.size) (h0 : 0 < m) :
    (Builtin.clear_ #[24] ty #[.slice (some ⟨g, o, none⟩) m c]).run Tryz.prog w = .ok (.tuple #[]) (w.setRow g (splice cur.toList o (Builtin.zeroCells zM.arr m).toList).toArray) := by
  have hst := run_storeCells_at Tryz.prog g o t (Builtin.zeroCells zM.arr m).toList 0 cur w hg (by rw [zero_len]; simpa using hfit) (zero_one m)
  obtain ⟨i0, hi, hz0, hz1, hz2⟩ := info_parts Tryz.infoMz
  obtain ⟨k, rfl⟩ : ∃ k, m = k + 1 := ⟨m - 1, by omega⟩
  simp [Builtin.clear_, run_underlying Tryz.underlying24, zeroValue, typeInfo, hi, hz0, hst, splice, Value.cells]
theorem OwnM.block {w : World} {B : Nat} {v : Value} {l : List Mg} (h : OwnM w B v l) (h0 : l ≠ []) : ∃ g cap cur, v = .slice (some ⟨g, 0, none⟩) l.length cap ∧ B ≤ g ∧ w.heap[g]? = some (.cells cur 50 (0, 0)) ∧ l.length ≤ cap ∧ cap ≤ maxLen ∧ cur.size = cap * 20 ∧ cur.toList.take (l.length * 20) = flatG Mg.list l := by
  rcases h.2 with ⟨rfl, hz⟩ | ⟨g, cap, cur, rfl, hb, hg, hn, hm, hs, ht⟩
  · exact absurd (List.length_eq_zero_iff.1 hz) h0
  · exact ⟨g, cap, cur, rfl, hb, hg, hn, hm, hs, ht⟩
theorem OwnM.mk {w : World} {B g n cap : Nat} {cur : Array Value} {l : List Mg} (hb : B ≤ g) (hg : w.heap[g]? = some (.cells cur 50 (0, 0))) (hn : n = l.length) (hc : n ≤ cap) (hm : cap ≤ maxLen) (hs : cur.size = cap * 20) (ht : cur.toList.take (n * 20) = flatG Mg.list l) :
    OwnM w B (.slice (some ⟨g, 0, none⟩) n cap) l := by
  subst hn
  exact ⟨by rw [flatG_len kM], .inr ⟨g, cap, cur, rfl, hb, hg, hc, hm, hs, ht⟩⟩
theorem row_at {w : World} {g : Nat} {L : List Value} {j n : Nat} {ws : List Mg} {x : Mg} (hg : w.heap[g]? = some (.cells L.toArray 50 (0, 0))) (hd : (L.drop (j * 20)).take ((n - j) * 20) = flatG Mg.list (ws.drop j)) (hn : n = ws.length) (hx : ws[j]? = some x) : w.rangeAt g (j * 20) x.list := fun f v hv => by
  have hlt := (List.getElem?_eq_some_iff.1 hx).1
  have hf := (List.getElem?_eq_some_iff.1 hv).1
  rw [kM] at hf
  rw [cellAt' hg, List.getElem?_toArray]
  have h0 : (ws.drop j)[0]? = some x := by rw [List.getElem?_drop, Nat.add_zero]; exact hx
  have := flatG_at kM (ws.drop j) 0 x h0 f v hv
  rw [← hd, Nat.zero_mul, Nat.zero_add, List.getElem?_take, if_pos (by omega), List.getElem?_drop] at this
  exact this
end Go.Proofs.YtlehcaacfgocaaaGreat
namespace Go.Proofs.YtlehcaacfgocaaaGreat
set_option linter.unusedVariables false
open Go.RowKit
open Go.Lib (hid)
open Go.Deep (blk_setCell_other nblk_setCell)
def delB (m x : Mg) : Bool := x.c.same m.c && decide (x.fr = m.fr)
set_option maxHeartbeats 4000000 in
set_option maxRecDepth 100000 in
theorem cWait1 {w : World} {pm : Nat} {m : Mg} (x : Mg) (hm : OM w pm m) : Calls Tryz.prog 149 #[.agg x.arr, ptr pm] w fun e w' => e = .returned (.bool (delB m x)) ∧ Below w.heap.size w w' := by
  have HB := hid (laid1_b w (.cells x.arr 50))
  have HX : Hid (OM (w.alloc (.cells x.arr 50)) w.heap.size x) := hid (laid1_0 w _)
  have HM : Hid (OM (w.alloc (.cells x.arr 50)) pm m) := hid (obAlloc hm)
  clear hm
  go_enter Tryz.func149, Tryz.ntmps149
  have tok : Hid (0 = 0) := hid rfl
  obtain ⟨r, hr⟩ : ∃ r, r = x.c.same m.c := ⟨_, rfl⟩
  have q1 := fun W => eqlC hr.symm W
  have q2 := fun W => guardC .eql (.tmp 5) (.tmp 7) x.c m.c W
  have HR := hid hr
  clear hr
  rcases r with _ | _
  · go_wp2_with (first
      | (clear tok; (with_reducible refine opaqueW (w.alloc (.cells x.arr 50)) ?_); intro W0 hW; rw [← hW] at HB HX HM; clear hW
         have d0 : W0.cell? ⟨w.heap.size, 4, none⟩ = some (.int .i64 x.c.i) := HX.out.cell rfl
         have d1 : W0.cell? ⟨w.heap.size, 5, none⟩ = some (.int .i64 x.c.k) := HX.out.cell rfl
         have d2 : W0.cell? ⟨w.heap.size, 6, none⟩ = some (.int .i64 x.c.s) := HX.out.cell rfl
         have d3 : W0.cell? ⟨w.heap.size, 7, none⟩ = some (.int .i64 x.c.t) := HX.out.cell rfl
         have d4 : W0.cell? ⟨w.heap.size, 8, none⟩ = some (.int .i64 x.c.d) := HX.out.cell rfl
         have d5 : W0.cell? ⟨w.heap.size, 9, none⟩ = some (.int .i64 x.c.p) := HX.out.cell rfl
         have d6 : W0.cell? ⟨w.heap.size, 10, none⟩ = some (.int .i64 x.c.q) := HX.out.cell rfl
         have e0 : W0.cell? ⟨pm, 4, none⟩ = some (.int .i64 m.c.i) := HM.out.cell rfl
         have e1 : W0.cell? ⟨pm, 5, none⟩ = some (.int .i64 m.c.k) := HM.out.cell rfl
         have e2 : W0.cell? ⟨pm, 6, none⟩ = some (.int .i64 m.c.s) := HM.out.cell rfl
         have e3 : W0.cell? ⟨pm, 7, none⟩ = some (.int .i64 m.c.t) := HM.out.cell rfl
         have e4 : W0.cell? ⟨pm, 8, none⟩ = some (.int .i64 m.c.d) := HM.out.cell rfl
         have e5 : W0.cell? ⟨pm, 9, none⟩ = some (.int .i64 m.c.p) := HM.out.cell rfl
         have e6 : W0.cell? ⟨pm, 10, none⟩ = some (.int .i64 m.c.q) := HM.out.cell rfl)
      | fail)
    go_ret
    refine ⟨?_, HB.out⟩
    unfold delB
    rw [← HR.out]
    rfl
  · go_wp2_with (first
      | (clear tok; (with_reducible refine opaqueW (w.alloc (.cells x.arr 50)) ?_); intro W0 hW; rw [← hW] at HB HX HM; clear hW
         have d0 : W0.cell? ⟨w.heap.size, 4, none⟩ = some (.int .i64 x.c.i) := HX.out.cell rfl
         have d1 : W0.cell? ⟨w.heap.size, 5, none⟩ = some (.int .i64 x.c.k) := HX.out.cell rfl
         have d2 : W0.cell? ⟨w.heap.size, 6, none⟩ = some (.int .i64 x.c.s) := HX.out.cell rfl
         have d3 : W0.cell? ⟨w.heap.size, 7, none⟩ = some (.int .i64 x.c.t) := HX.out.cell rfl
         have d4 : W0.cell? ⟨w.heap.size, 8, none⟩ = some (.int .i64 x.c.d) := HX.out.cell rfl
         have d5 : W0.cell? ⟨w.heap.size, 9, none⟩ = some (.int .i64 x.c.p) := HX.out.cell rfl
         have d6 : W0.cell? ⟨w.heap.size, 10, none⟩ = some (.int .i64 x.c.q) := HX.out.cell rfl
         have e0 : W0.cell? ⟨pm, 4, none⟩ = some (.int .i64 m.c.i) := HM.out.cell rfl
         have e1 : W0.cell? ⟨pm, 5, none⟩ = some (.int .i64 m.c.k) := HM.out.cell rfl
         have e2 : W0.cell? ⟨pm, 6, none⟩ = some (.int .i64 m.c.s) := HM.out.cell rfl
         have e3 : W0.cell? ⟨pm, 7, none⟩ = some (.int .i64 m.c.t) := HM.out.cell rfl
         have e4 : W0.cell? ⟨pm, 8, none⟩ = some (.int .i64 m.c.d) := HM.out.cell rfl
         have e5 : W0.cell? ⟨pm, 9, none⟩ = some (.int .i64 m.c.p) := HM.out.cell rfl
         have e6 : W0.cell? ⟨pm, 10, none⟩ = some (.int .i64 m.c.q) := HM.out.cell rfl
         have f0 : W0.cell? ⟨w.heap.size, 1, none⟩ = some (.int .i64 x.fr) := HX.out.cell rfl
         have f1 : W0.cell? ⟨pm, 1, none⟩ = some (.int .i64 m.fr) := HM.out.cell rfl)
      | fail)
    go_ret
    refine ⟨?_, HB.out⟩
    unfold delB
    rw [← HR.out]
    by_cases hh : x.fr = m.fr <;> simp [hh]
inductive IdxPost (p : Mg → Bool) (ws : List Mg) : Ending → Prop
  | miss : (∀ x ∈ ws, p x = false) → IdxPost p ws (.returned (.int .i64 (-1)))
  | hit (k : Nat) (x : Mg) : ws[k]? = some x → p x = true → (∀ y ∈ ws.take k, p y = false) → IdxPost p ws (.returned (.int .i64 k))
set_option maxHeartbeats 4000000 in
set_option maxRecDepth 100000 in
theorem cIndexFuncM {w : World} {v : Value} {ws : List Mg} (h : SlM w v ws) (hl : ws.length ≤ 1000000) (p : Mg → Bool) (g : Nat) (lb : Array Value) (eg : ∀ args w, (callFunc g args).run Tryz.prog w = .ok (.enter g args) w)
    (hp : ∀ (W : World) (x : Mg), Below w.heap.size w W → Calls Tryz.prog g (#[.agg x.arr] ++ lb) W fun e w' => e = .returned (.bool (p x)) ∧ Below W.heap.size W w') :
    Calls Tryz.prog 182 #[v, .func (.func g) #[] lb] w fun e w' => IdxPost p ws e ∧ Below w.heap.size w w' := by
  obtain ⟨b, o, cap, a, rfl, ha, hc, hb⟩ := h
  have HC := hid hc
  have HP := hid hp
  have HB := hid hb
  obtain ⟨n, hnl⟩ : ∃ n, n = ws.length := ⟨_, rfl⟩
  rw [← hnl] at hl ha hb ⊢
  have HN := hid hnl
  clear hc hp hnl
  go_enter Tryz.func182, Tryz.ntmps182
  go_wp2_with fail
  go_loopg [5, 8] n (fun gg _ s8 wr => ∃ kk : Nat, kk ≤ n ∧ n - kk ≤ gg ∧ s8 = .int .i64 kk ∧ Hid (Below w.heap.size w wr) ∧ Hid (∀ y ∈ ws.take kk, p y = false))
  case atStart => exact ⟨0, Nat.zero_le _, by omega, rfl, hid (Below.refl _ w), hid (by simp)⟩
  case round =>
    obtain ⟨kk, hkk, hg, rfl, BW, A⟩ := hrel
    by_cases hlt : kk < n
    · have hltz : (kk : Int) < (n : Int) := by omega
      obtain rfl := ha (by omega)
      obtain ⟨x, hx⟩ : ∃ x, ws[kk]? = some x := ⟨ws[kk]'(by rw [← HN.out]; exact hlt), List.getElem?_eq_getElem (by rw [← HN.out]; exact hlt)⟩
      have HR : Hid (wr.rangeAt b (o + kk * 20) x.list) := hid ((HC.out.on BW.out fun h0 => HB.out h0) kk x hx)
      have HX := hid hx
      have hcall := HP.out wr x BW.out
      clear hx
      obtain ⟨r, hr⟩ : ∃ r, r = p x := ⟨_, rfl⟩
      rw [← hr] at hcall
      have HQ := hid hr
      have HCL := hid hcall
      clear hr hcall
      rcases r with _ | _
      · go_wp2_with (first
          | ((with_reducible refine loadMl (x := ?lx1) (b := ?lb1) (o := ?lo1) x ?lg1 ?lp1 ?lxx1 ?lc1 ?_); (case lg1 => rfl); (case lp1 => rfl); (case lxx1 => rfl); (case lc1 => exact HR.out))
          | (go_at_fn g; refine HCL.out.mono ?_; rintro e w' ⟨rfl, hb'⟩; have HB' := hid hb'; clear hb')
          | fail)
        go_roundg (n - (kk + 1))
        case measure => omega
        case rel => exact ⟨kk + 1, by omega, by omega, by go_num, hid (BW.out.trans (HB'.out.mono BW.out.size)), hid fun y hy => by
          rw [List.take_add_one, HX.out] at hy
          rcases List.mem_append.1 hy with hy | hy
          · exact A.out y hy
          · simp at hy; subst hy; exact HQ.out.symm⟩
      · go_wp2_with (first
          | ((with_reducible refine loadMl (x := ?lx2) (b := ?lb2) (o := ?lo2) x ?lg2 ?lp2 ?lxx2 ?lc2 ?_); (case lg2 => rfl); (case lp2 => rfl); (case lxx2 => rfl); (case lc2 => exact HR.out))
          | (go_at_fn g; refine HCL.out.mono ?_; rintro e w' ⟨rfl, hb'⟩; have HB' := hid hb'; clear hb')
          | fail)
        go_ret
        exact ⟨.hit kk x HX.out HQ.out.symm A.out, BW.out.trans (HB'.out.mono BW.out.size)⟩
    · have hltz : ¬ (kk : Int) < (n : Int) := by omega
      have hkn : kk = n := by omega
      go_wp2_with fail
      go_ret
      exact ⟨.miss fun x hx => A.out x (by rw [hkn, HN.out, List.take_length]; exact hx), BW.out⟩
end Go.Proofs.YtlehcaacfgocaaaGreat
namespace Go.Proofs.YtlehcaacfgocaaaGreat
set_option linter.unusedVariables false
open Go.RowKit
open Go.Lib (hid)
open Go.Deep (blk_setCell_other nblk_setCell)
structure Dl (w W : World) (g cap : Nat) (p : Mg → Bool) (ws : List Mg) (k j : Nat) : Prop where
  tch : Tch (fun k => k = g) w W
  row : ∃ L : List Value, W.heap[g]? = some (.cells L.toArray 50 (0, 0)) ∧ L.length = cap * 20 ∧ L.take (k * 20) = flatG Mg.list ((ws.take j).filter fun x => !p x) ∧ (L.drop (j * 20)).take ((ws.length - j) * 20) = flatG Mg.list (ws.drop j)
  len : k = ((ws.take j).filter fun x => !p x).length
theorem Dl.le {w W : World} {g cap k j : Nat} {p : Mg → Bool} {ws : List Mg} (h : Dl w W g cap p ws k j) (hj : j ≤ ws.length) : k ≤ j := by
  rw [h.len]
  refine Nat.le_trans (List.length_filter_le _ _) ?_
  rw [List.length_take]; omega
theorem Dl.on {w W W' : World} {g cap k j : Nat} {p : Mg → Bool} {ws : List Mg} (h : Dl w W g cap p ws k j) (hB : Below W.heap.size W W') : Dl w W' g cap p ws k j := by
  obtain ⟨L, h1, h2⟩ := h.row
  exact ⟨h.tch.trans (Tch.ofBelow hB), ⟨L, heapB h1 hB (Array.getElem?_eq_some_iff.1 h1).1, h2⟩, h.len⟩
theorem take_nextM {ws : List Mg} {j : Nat} {x : Mg} (hx : ws[j]? = some x) : ws.take (j + 1) = ws.take j ++ [x] := by rw [List.take_add_one, hx]; rfl
theorem drop_nextM {L : List Value} {ws : List Mg} {j : Nat} (hj : j < ws.length) (h : (L.drop (j * 20)).take ((ws.length - j) * 20) = flatG Mg.list (ws.drop j)) : (L.drop ((j + 1) * 20)).take ((ws.length - (j + 1)) * 20) = flatG Mg.list (ws.drop (j + 1)) := by
  have e : flatG Mg.list (ws.drop (j + 1)) = (flatG Mg.list (ws.drop j)).drop 20 := by
    rw [show (20 : Nat) = 1 * 20 from rfl, flat_drop, List.drop_drop]
  rw [e, ← h, List.drop_take, List.drop_drop]
  congr 1
  · omega
  · congr 1; omega
theorem splice_drop {L cs : List Value} {off d : Nat} (h : off ≤ L.length) (hd : off + cs.length ≤ d) : (splice L off cs).drop d = L.drop d := by
  apply List.ext_getElem?
  intro i
  rw [List.getElem?_drop, List.getElem?_drop]
  unfold splice
  rw [List.getElem?_append_right (by simp; omega), List.getElem?_append_right (by simp; omega), List.getElem?_drop]
  congr 1
  simp
  omega
theorem Dl.skip {w W : World} {g cap k j : Nat} {p : Mg → Bool} {ws : List Mg} {x : Mg} (h : Dl w W g cap p ws k j) (hx : ws[j]? = some x) (hp : p x = true) : Dl w W g cap p ws k (j + 1) := by
  obtain ⟨L, h1, h2, h3, h4⟩ := h.row
  have hj := (List.getElem?_eq_some_iff.1 hx).1
  have he : (ws.take (j + 1)).filter (fun x => !p x) = (ws.take j).filter fun x => !p x := by rw [take_nextM hx, List.filter_append]; simp [hp]
  exact ⟨h.tch, ⟨L, h1, h2, by rw [he]; exact h3, drop_nextM hj h4⟩, by rw [he]; exact h.len⟩
theorem Dl.keep {w W : World} {g cap k j : Nat} {p : Mg → Bool} {ws : List Mg} {x : Mg} (h : Dl w W g cap p ws k j) (hc : ws.length ≤ cap) (hx : ws[j]? = some x) (hp : p x = false) : Dl w (W.setCells g (k * 20) x.list) g cap p ws (k + 1) (j + 1) := by
  obtain ⟨L, h1, h2, h3, h4⟩ := h.row
  have hj := (List.getElem?_eq_some_iff.1 hx).1
  have hk := h.le (Nat.le_of_lt hj)
  have hs := setCells_row h1 x.list (k * 20) (by rw [kM]; simp [h2]; omega) (Mg.one' x)
  have he : (ws.take (j + 1)).filter (fun x => !p x) = ((ws.take j).filter fun x => !p x) ++ [x] := by rw [take_nextM hx, List.filter_append]; simp [hp]
  rw [hs]
  refine ⟨h.tch.trans (tch_setRow _ _ _), ⟨splice L (k * 20) x.list, setRow_heap _ _ _ _ _ _ h1, ?_, ?_, ?_⟩, ?_⟩
  · rw [splice_len (by rw [kM, h2]; omega), h2]
  · rw [splice_mid (by rw [h2]; omega) (by rw [kM]; omega), he, flatG_append, flatG_one, h3]
  · have h5 := drop_nextM hj h4
    rw [← h5]
    congr 1
    exact splice_drop (by rw [h2]; omega) (by rw [kM]; omega)
  · rw [he, List.length_append, ← h.len]; rfl
theorem Dl.begin {w w1 : World} {B g cap k : Nat} {cur : Array Value} {p : Mg → Bool} {ws : List Mg} {x : Mg} (hg : w.heap[g]? = some (.cells cur 50 (0, 0))) (hs : cur.size = cap * 20) (ht : cur.toList.take (ws.length * 20) = flatG Mg.list ws) (hB : Below w.heap.size w w1) (hx : ws[k]? = some x) (hp : p x = true) (hn : ∀ y ∈ ws.take k, p y = false) : Dl w w1 g cap p ws k (k + 1) := by
  have hk := (List.getElem?_eq_some_iff.1 hx).1
  have he : (ws.take (k + 1)).filter (fun x => !p x) = ws.take k := by
    rw [take_nextM hx, List.filter_append, List.filter_eq_self.2 (fun y hy => by simp [hn y hy])]; simp [hp]
  refine ⟨Tch.ofBelow hB, ⟨cur.toList, by simpa using heapB hg hB (Array.getElem?_eq_some_iff.1 hg).1, by simpa using hs, ?_, ?_⟩, ?_⟩
  · rw [he, ← flat_take, ← ht, List.take_take, Nat.min_eq_left (by omega)]
  · rw [← flat_drop, ← ht, List.drop_take]
    congr 1
    omega
  · rw [he, List.length_take]; omega
theorem uponStoreMo {op : Oper} {a : Act} {w : World} {K : Act → World → Prop} {Q : Exit → Act → World → Prop} {q o : Nat} {C : Array Value} (m : Mg) (hC : w.heap[q]? = some (.cells C 50 (0, 0))) (hz : o + 20 ≤ C.size) (h : K (a.put op.dst undef) (w.setCells q o m.list)) :
    Oper.upon Tryz.prog op a K Q ((Sem.run Tryz.prog (storeCells ⟨q, o, none⟩ m.arr.toList) w).andThen fun _ w' => Result.ok Next.skip w') := by
  rw [Mg.toList]
  have e := setCells_row hC m.list o (by rw [kM]; exact hz) (Mg.one' m)
  have r := run_storeCells_at Tryz.prog q o 50 m.list 0 C w hC (by rw [kM]; simpa using hz) (Mg.one' m)
  have hr : Sem.run Tryz.prog (storeCells ⟨q, o, none⟩ m.list) w = .ok () (w.setCells q o m.list) := by rw [e]; simpa [splice] using r
  rw [hr]
  exact h
theorem wpList_clear_run {P : Program} (w : World) {ops : Array Oper} {rest : List Oper} {o : Oper} {a : Act} {Q : Exit → Act → World → Prop} (hgd : o.guard = none) (s : Operand) (t : TypeId)
    (ho : o.op = .call { callee := .builtin .clear, args := #[s], argTypes := #[t] }) (u : Value) (hs : a.eval s = u) {v' : Value} {w' : World}
    (hr : (Builtin.clear_ #[t] o.type #[u]).run P w = .ok v' w') (h : wpList P ops Q rest (a.put o.dst v') w') : wpList P ops Q (o :: rest) a w := by
  refine wpList_plain hgd fun _ hK => ?_
  unfold Oper.wp execOp
  simp only [ho, resolve, invoke, builtin, Sem.run_bind, Sem.run_pure, Result.andThen_ok, List.map_toArray, List.map_cons, List.map_nil, hs, hr]
  exact hK _ _ h
def DelPost (w : World) (B : Nat) (v : Value) (ws : List Mg) (p : Mg → Bool) (e : Ending) (w' : World) : Prop := ∃ v', e = .returned v' ∧ OwnM w' B v' (ws.filter fun x => !p x) ∧ Tch (fun k => v.ownBlock = some k) w w' ∧ v'.ownBlock = v.ownBlock
set_option maxHeartbeats 8000000 in
set_option maxRecDepth 100000 in
theorem cDeleteFuncM {w : World} {B : Nat} {v : Value} {ws : List Mg} (h : OwnM w B v ws) (hl : ws.length ≤ 100000) (p : Mg → Bool) (gf : Nat) (lb : Array Value) (eg : ∀ args w, (callFunc gf args).run Tryz.prog w = .ok (.enter gf args) w)
    (hp : ∀ (W : World) (x : Mg), Tch (fun k => v.ownBlock = some k) w W → Calls Tryz.prog gf (#[.agg x.arr] ++ lb) W fun e w' => e = .returned (.bool (p x)) ∧ Below W.heap.size W w') :
    Calls Tryz.prog 148 #[v, .func (.func gf) #[] lb] w (DelPost w B v ws p) := by
  have hI := cIndexFuncM (OwnG.slG kM h) (by omega) p gf lb eg (fun W x hB => hp W x (Tch.ofBelow hB))
  have HO := hid h
  have HP := hid hp
  have HLL := hid hl
  obtain ⟨ga, gc, gn, rfl, hgn⟩ := h.asSlice
  clear h hp hl hgn
  go_enter Tryz.func148, Tryz.ntmps148
  go_wp2_with fail
  go_at_call 182
  refine hI.mono ?_
  rintro e w1 ⟨hi, hB1⟩
  have HB1 := hid hB1
  clear hI hB1
  rcases hi with hm | ⟨k, x, hx, hpx, hpn⟩
  · go_wp2_with fail
    go_ret
    refine ⟨_, rfl, ?_, Tch.ofBelow HB1.out, rfl⟩
    rw [List.filter_eq_self.2 (fun y hy => by simp [hm y hy])]
    exact HO.out.on HB1.out
  · obtain ⟨g, cap, cur, hv, hBg, hg, hn, hm, hs, ht⟩ := OwnM.block HO.out (fun e => by rw [e] at hx; simp at hx)
    injection hv with hv1 hv2 hv3
    subst hv1 hv2 hv3
    have hlt := (List.getElem?_eq_some_iff.1 hx).1
    have HD : Hid (Dl w w1 g gc p ws k (k + 1)) := hid (Dl.begin (B := B) hg hs ht HB1.out hx hpx hpn)
    have HCAP := hid hn
    have HCM := hid hm
    have HBG := hid hBg
    clear hx hpx hpn hg hs ht hm hBg
    obtain ⟨n, hnl⟩ : ∃ n, n = ws.length := ⟨_, rfl⟩
    rw [← hnl] at hn hlt ⊢
    have HN := hid hnl
    have HL := hid (show n ≤ 100000 by rw [hnl]; exact HLL.out)
    clear hnl
    have hnn : n ≤ 100000 := HL.out
    have hk1 : ¬ ((k : Int) = -1) := by omega
    go_wp2_with fail
    go_loopg [5, 6, 7] n (fun gg s5 s6 _ wr => ∃ a j : Nat, s5 = .int .i64 a ∧ s6 = .int .i64 j ∧ a < j ∧ j ≤ n ∧ n - j ≤ gg ∧ Hid (Dl w wr g gc p ws a j))
    case atStart => exact ⟨k, k + 1, rfl, by go_num, by omega, by omega, by omega, HD⟩
    case round =>
      obtain ⟨a, j, rfl, rfl, haj, hjn, hgg, HDL⟩ := hrel
      by_cases hlt2 : j < n
      · have hltz : (j : Int) < (n : Int) := by omega
        obtain ⟨y, hy⟩ : ∃ y, ws[j]? = some y := ⟨ws[j]'(by rw [← HN.out]; exact hlt2), List.getElem?_eq_getElem (by rw [← HN.out]; exact hlt2)⟩
        have HR : Hid (wr.rangeAt g (j * 20) y.list) := hid (by
          obtain ⟨L, h1, h2, h3, h4⟩ := HDL.out.row
          exact row_at h1 h4 rfl hy)
        have HY := hid hy
        clear hy
        obtain ⟨r, hr⟩ : ∃ r, r = p y := ⟨_, rfl⟩
        have HQ := hid hr
        clear hr
        have HRM : Hid (RoomM (wr.alloc zeroMc) wr.heap.size) := hid ⟨_, heap_alloc_new wr _, rfl⟩
        have hlg : g < wr.heap.size := by obtain ⟨L, h1, _⟩ := HDL.out.row; exact (Array.getElem?_eq_some_iff.1 h1).1
        rcases r with _ | _
        · go_wp2_with (first
            | ((with_reducible refine loadMl (x := ?lx1) (b := ?lb1) (o := ?lo1) y ?lg1 ?lp1 ?lxx1 ?lc1 ?_); (case lg1 => rfl); (case lp1 => rfl); (case lxx1 => rfl); (case lc1 => exact HR.out))
            | ((with_reducible refine storeM (x := ?sx1) (y := ?sy1) (b := wr.heap.size) y ?sg1 ?so1 ?sxx1 ?syy1 ?sc1 ?sh1); (case sg1 => rfl); (case so1 => rfl); (case sxx1 => rfl); (case syy1 => rfl); (case sc1 => exact HRM.out); intro W1 hO hU; have HB2 : Hid (Below wr.heap.size wr W1) := hid ((laid1_b wr zeroMc).trans (hU.below _ (Nat.le_refl _))); have HO1 := hid hO; have HD1 := hid (HDL.out.on HB2.out); have hcall := HP.out W1 y (HD1.out.tch.mono (fun k hk => by subst hk; rfl)); rw [← HQ.out] at hcall; have HCL := hid hcall; clear hO hU hcall)
            | ((with_reducible refine loadM (x := ?lx3) (b := wr.heap.size) y ?lg3 ?lo3 ?lxx3 ?lc3 ?lh3); (case lg3 => rfl); (case lo3 => rfl); (case lxx3 => rfl); (case lc3 => exact HO1.out))
            | (go_at_fn gf; refine HCL.out.mono ?_; rintro e w2 ⟨rfl, hb2⟩; have HD2 := hid (HD1.out.on hb2); have HO2 : Hid (OM w2 wr.heap.size y) := hid (heapB HO1.out hb2 (Array.getElem?_eq_some_iff.1 HO1.out).1); clear hb2)
            | ((with_reducible refine loadM (x := ?lx4) (b := wr.heap.size) y ?lg4 ?lo4 ?lxx4 ?lc4 ?lh4); (case lg4 => rfl); (case lo4 => rfl); (case lxx4 => rfl); (case lc4 => exact HO2.out))
            | ((with_reducible refine uponStoreMo (o := a * 20) y HD2.out.row.choose_spec.1 (by have := HD2.out.row.choose_spec.2.1; have := HCAP.out; have := HN.out; simp; omega) ?_); have HD3 := hid (Dl.keep HD2.out (by have := HCAP.out; omega) HY.out HQ.out.symm); generalize w2.setCells g (a * 20) y.list = w3 at HD3 ⊢)
            | fail)
          go_roundg (n - (j + 1))
          case measure => omega
          case rel => exact ⟨a + 1, j + 1, by go_num, by go_num, by omega, by omega, by omega, HD3⟩
        · go_wp2_with (first
            | ((with_reducible refine loadMl (x := ?mx1) (b := ?mb1) (o := ?mo1) y ?mg1 ?mp1 ?mxx1 ?mc1 ?_); (case mg1 => rfl); (case mp1 => rfl); (case mxx1 => rfl); (case mc1 => exact HR.out))
            | ((with_reducible refine storeM (x := ?nx1) (y := ?ny1) (b := wr.heap.size) y ?ng1 ?no1 ?nxx1 ?nyy1 ?nc1 ?nh1); (case ng1 => rfl); (case no1 => rfl); (case nxx1 => rfl); (case nyy1 => rfl); (case nc1 => exact HRM.out); intro W1 hO hU; have HB2 : Hid (Below wr.heap.size wr W1) := hid ((laid1_b wr zeroMc).trans (hU.below _ (Nat.le_refl _))); have HO1 := hid hO; have HD1 := hid (HDL.out.on HB2.out); have hcall := HP.out W1 y (HD1.out.tch.mono (fun k hk => by subst hk; rfl)); rw [← HQ.out] at hcall; have HCL := hid hcall; clear hO hU hcall)
            | ((with_reducible refine loadM (x := ?mx3) (b := wr.heap.size) y ?mg3 ?mo3 ?mxx3 ?mc3 ?mh3); (case mg3 => rfl); (case mo3 => rfl); (case mxx3 => rfl); (case mc3 => exact HO1.out))
            | (go_at_fn gf; refine HCL.out.mono ?_; rintro e w2 ⟨rfl, hb2⟩; have HD2 := hid (HD1.out.on hb2); clear hb2)
            | fail)
          go_roundg (n - (j + 1))
          case measure => omega
          case rel => exact ⟨a, j + 1, rfl, by go_num, by omega, by omega, by omega, hid (Dl.skip HD2.out HY.out HQ.out.symm)⟩
      · have hltz : ¬ (j : Int) < (n : Int) := by omega
        obtain rfl : j = n := by omega
        obtain ⟨L, h1, h2, h3, h4⟩ := HDL.out.row
        have hlen := HDL.out.len
        have hT := HDL.out.tch
        have hcap := HCAP.out
        have hN := HN.out
        have HCL := hid fun ty c => run_clearM wr ty g (a * 20) c (j - a) L.toArray 50 h1 (by simp [h2]; omega) (by omega)
        have HG2 : Hid ((wr.setRow g (splice L (a * 20) (Builtin.zeroCells zM.arr (j - a)).toList).toArray).heap[g]? = some (.cells (splice L (a * 20) (Builtin.zeroCells zM.arr (j - a)).toList).toArray 50 (0, 0))) := hid (setRow_heap _ _ _ _ _ _ h1)
        have HLN : Hid ((splice L (a * 20) (Builtin.zeroCells zM.arr (j - a)).toList).length = gc * 20) := hid (by rw [splice_len (by rw [zero_len, h2]; omega), h2])
        have HTK : Hid ((splice L (a * 20) (Builtin.zeroCells zM.arr (j - a)).toList).take (a * 20) = flatG Mg.list (ws.filter fun x => !p x)) := hid (by rw [splice_low (by rw [h2]; omega) (Nat.le_refl _), h3, hN, List.take_length])
        have HT := hid hT
        have HLEN : Hid (a = (ws.filter fun x => !p x).length) := hid (by rw [hlen, hN, List.take_length])
        clear h1 h2 h3 h4 hlen hT hcap hN
        generalize splice L (a * 20) (Builtin.zeroCells zM.arr (j - a)).toList = L2 at HCL HG2 HLN HTK
        have HT2 : Hid (Tch (fun k => k = g) w (wr.setRow g L2.toArray)) := hid (HT.out.trans (tch_setRow _ _ _))
        have hgc : ¬ gc = a := by have := HCAP.out; have := HN.out; omega
        have hal : a ≤ j := by omega
        have hac : a ≤ gc := by have := HCAP.out; have := HN.out; omega
        have hjc : j ≤ gc := by have := HCAP.out; have := HN.out; omega
        go_wp2_with (first
          | ((with_reducible refine wpList_clear_run wr ?cg ?cs 24 ?co (.slice (some ⟨g, a * 20, none⟩) (j - a) (gc - a)) ?ce (HCL.out _ _) ?ch); (case cg => rfl); (case co => rfl); (case ce => rfl); generalize wr.setRow g L2.toArray = w5 at HG2 HT2 ⊢)
          | fail)
        go_ret
        refine ⟨_, rfl, OwnM.mk HBG.out HG2.out HLEN.out hac HCM.out (by simpa using HLN.out) (by simpa using HTK.out), HT2.out.mono (fun k hk => by subst hk; rfl), rfl⟩
end Go.Proofs.YtlehcaacfgocaaaGreat
