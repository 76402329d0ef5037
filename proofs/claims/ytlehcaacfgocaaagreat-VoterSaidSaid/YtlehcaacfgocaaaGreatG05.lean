import Derived.Test.YtlehcaacfgocaaaGreatG01
import Derived.Deep.QuietTactic
import Derived.BigQuiet
import Derived.Test.YtlehcaacfgocaaaGreatG02
import Derived.Test.YtlehcaacfgocaaaGreatRows
import Derived.WalkKit
import Derived.LoopTactic
import Derived.ProofKit
import Derived.Laws.Cover1
namespace Go.Proofs.YtlehcaacfgocaaaGreat
set_option linter.unusedVariables false
open Go.RowKit
open Go.Lib (hid)
def nums (l : List Int) : List Value := l.map (Value.int .i64)
abbrev OwnI (w : World) (B : Nat) (v : Value) (l : List Int) : Prop := w.ownsRow B 3 1 v l.length (nums l)
theorem OwnI.nil (w : World) (B : Nat) : OwnI w B (.slice none 0 0) [] := World.ownsRow_nil _ _ _ _
theorem OwnI.grows {w W0 w1 : World} {B : Nat} {v v' : Value} {l : List Int} {x : Int} (hB : Below B w W0) (hsz : B ≤ W0.heap.size) (hlt : ∀ k, v.ownBlock = some k → B ≤ k)
    (hown' : w1.ownsRow B 3 1 v' (l.length + 1) (nums l ++ [.int .i64 x])) (hg : W0.grownBy w1 v.ownBlock) : OwnI w1 B v' (l ++ [x]) ∧ Below B w w1 :=
  ⟨by unfold OwnI nums; rw [List.map_append, List.length_append]; exact hown', hB.grown hg hsz hlt⟩
theorem ids_next {cs : List C7} {k : Nat} {c : C7} (hc : cs[k]? = some c) : idsL (cs.take (k + 1)) = idsL (cs.take k) ++ [c.i] := by
  unfold idsL; rw [take_snoc hc, List.map_append]; rfl
theorem ids_len (cs : List C7) (k : Nat) : (idsL (cs.take k)).length ≤ k := by unfold idsL; simp; omega
set_option maxHeartbeats 600000 in
set_option maxRecDepth 100000 in
theorem cIds {v : Value} {cs : List C7} {w : World} (h : Sl w v cs) (hl : cs.length ≤ 100000) : Calls Tryz.prog 173 #[v] w fun e w' => ∃ r, e = .returned r ∧ OwnI w' w.heap.size r (idsL cs) ∧ Below w.heap.size w w' := by
  obtain ⟨b, o, cap, a, rfl, hn, ha, hc, hb⟩ := h
  obtain ⟨i0, hi, hz0, hz1, hz2⟩ := info_parts Tryz.infoI
  go_enter Tryz.func173, Tryz.ntmps173
  go_wp2
  go_loopw [3, 8] (fun u i wr => ∃ k : Nat, k ≤ cs.length ∧ i = .int .i64 k ∧ OwnI wr w.heap.size u (idsL (cs.take k)) ∧ Below w.heap.size w wr) (fun _ i _ => cs.length - (intOf i).toNat)
  case atStart => exact ⟨0, Nat.zero_le _, rfl, OwnI.nil _ _, Below.refl _ _⟩
  case round =>
    obtain ⟨k, hk, rfl, hown, hB⟩ := hrel
    have hsz := hB.size
    have hil := ids_len cs k
    by_cases hlt : k < cs.length
    · obtain rfl := ha (by omega)
      obtain ⟨c, hcc⟩ : ∃ c, cs[k]? = some c := ⟨cs[k], List.getElem?_eq_getElem hlt⟩
      have hbw := hb (by omega)
      obtain ⟨c0, c1, c2, c3, c4, c5, c6⟩ := (hc.on hB hbw).at hcc
      have HC := hid hcc
      have HB := hid hB
      have HO := hid hown
      clear hcc hB
      go_wp2_with (at_builtin; refine wpList_append_own _ rfl _ _ 60 rfl w.heap.size 3 i0 _ 1 8 Tryz.underlying60 hi hz0 hz1 hz2 rfl (by decide) _ _ _ rfl ((hown.alloc _).alloc _) ⟨wr.heap.size + 1, 0, none⟩ 1 1 [.int .i64 c.i] rfl rfl ?c1 ?c2 ?c3 ?c4 ?c5 ?_)
      case c2 => first | rfl | trivial | (intro u hu; simp at hu; subst hu; rfl)
      case c3 => unfold maxLen; omega
      case c4 => omega
      case c5 => first | omega | (simp; omega)
      intro v' w1 hown' hgrow _
      have R := OwnI.grows ((HB.out.alloc hsz _).alloc (by simp; omega) _) (by simp; omega) (fun k hk => (HO.out.lt k hk).1) hown' hgrow
      rw [← ids_next HC.out] at R
      clear hown' hgrow hown
      go_wp2
      go_roundw
      case rel => exact ⟨k + 1, by omega, by go_num, R.1, R.2⟩
      case measure => simp [intOf]; omega
    · rw [List.take_of_length_le (by omega)] at hown
      have HR := hid hown
      clear hown
      go_wp2
      go_ret
      exact ⟨_, rfl, HR.out, hB⟩
def SlI (w : World) (v : Value) (l : List Int) : Prop :=
  ∃ (b o cap : Nat) (a : Option Addr), v = .slice a l.length cap ∧ (0 < l.length → a = some ⟨b, o, none⟩) ∧ (∀ (j : Nat) x, l[j]? = some x → w.cell? ⟨b, o + j, none⟩ = some (.int .i64 x)) ∧ (0 < l.length → b < w.heap.size)
theorem OwnI.sl {w : World} {B : Nat} {v : Value} {l : List Int} (h : OwnI w B v l) : SlI w v l := by
  have hl := h.lt
  have hcl := fun g (hg : v.ownBlock = some g) => h.cells hg
  rcases h.2 with ⟨rfl, h0⟩ | ⟨g, cap, cur, rfl, hb, hg, hn, hm, hs, ht⟩
  · obtain rfl := List.length_eq_zero_iff.1 h0
    exact ⟨0, 0, 0, none, rfl, fun h => absurd h (by simp), fun j x hx => by simp at hx, fun h => absurd h (by simp)⟩
  · refine ⟨g, 0, cap, _, rfl, fun _ => rfl, fun j x hx => ?_, fun _ => (hl g rfl).2⟩
    have := hcl g rfl j (.int .i64 x) (by simp [nums, hx])
    rw [show (⟨g, 0, none⟩ : Addr).add j = ⟨g, 0 + j, none⟩ from by unfold Addr.add; split <;> simp_all] at this
    exact this
theorem SlI.on {w w' : World} {v : Value} {l : List Int} (h : SlI w v l) (hb : Below w.heap.size w w') : SlI w' v l := by
  obtain ⟨b, o, cap, a, rfl, ha, hc, hl⟩ := h
  refine ⟨b, o, cap, a, rfl, ha, fun j x hx => ?_, fun h0 => by have := hl h0; have := hb.size; omega⟩
  have h0 : 0 < l.length := by have := (List.getElem?_eq_some_iff.1 hx).1; omega
  rw [hb.cell (p := ⟨b, o + j, none⟩) (hl h0)]
  exact hc j x hx
end Go.Proofs.YtlehcaacfgocaaaGreat
namespace Go.Proofs.YtlehcaacfgocaaaGreat
open Go.RowKit
end Go.Proofs.YtlehcaacfgocaaaGreat
namespace Go.Proofs.YtlehcaacfgocaaaGreat
open Go.RowKit
def countI (t : Int) : Int := if 16 ≤ t ∧ t < 1048576 ∧ t % 16 ≤ 8 then t / 16 else 0
def mkV (c n : Int) : Int := if n < 0 ∨ 8 < n ∨ c < 1 ∨ 65535 < c then 0 else 16 * c + n
def mkE (c n : Int) : Int := if n < 0 ∨ 8 < n ∨ c < 1 then 1 else if 65535 < c then 8 else 0
theorem sMake_any (c n : Int) (w : World) : Calls Tryz.prog 183 #[.int .i64 c, .int .i64 n] w fun e w' => e = .returned (two (mkV c n) (mkE c n)) ∧ w = w' := by
  by_cases h0 : n < 0
  · go_enter Tryz.func183, Tryz.ntmps183
    go_wp2
    go_ret2
    exact ⟨ret_two (by unfold mkV; rw [if_pos (by omega)]) (by unfold mkE; rw [if_pos (by omega)]), rfl⟩
  by_cases h1 : 9 ≤ n
  · go_enter Tryz.func183, Tryz.ntmps183
    go_wp2
    go_ret2
    exact ⟨ret_two (by unfold mkV; rw [if_pos (by omega)]) (by unfold mkE; rw [if_pos (by omega)]), rfl⟩
  by_cases h2 : c < 1
  · go_enter Tryz.func183, Tryz.ntmps183
    go_wp2
    go_ret2
    exact ⟨ret_two (by unfold mkV; rw [if_pos (by omega)]) (by unfold mkE; rw [if_pos (by omega)]), rfl⟩
  by_cases h3 : 65536 ≤ c
  · go_enter Tryz.func183, Tryz.ntmps183
    go_wp2
    go_ret2
    exact ⟨ret_two (by unfold mkV; rw [if_pos (by omega)]) (by unfold mkE; rw [if_neg (by omega), if_pos (by omega)]), rfl⟩
  · go_enter Tryz.func183, Tryz.ntmps183
    go_wp2
    go_ret2
    exact ⟨ret_two (by unfold mkV; rw [if_neg (by omega)]) (by unfold mkE; rw [if_neg (by omega), if_neg (by omega)]), rfl⟩
theorem sValid_any (t : Int) (w : World) : Calls Tryz.prog 106 #[.int .i64 t] w fun e w' => e = .returned (.bool (validB t)) ∧ w = w' := by
  by_cases h0 : 16 ≤ t
  · by_cases h1 : t < 1048576
    · by_cases h2 : t % 16 < 9
      · go_enter Tryz.func106, Tryz.ntmps106
        go_wp2
        go_ret
        exact ⟨ret_bool (by unfold validB; symm; simp; omega), rfl⟩
      · go_enter Tryz.func106, Tryz.ntmps106
        go_wp2
        go_ret
        exact ⟨ret_bool (by unfold validB; symm; simp; omega), rfl⟩
    · go_enter Tryz.func106, Tryz.ntmps106
      go_wp2
      go_ret
      exact ⟨ret_bool (by unfold validB; symm; simp; omega), rfl⟩
  · go_enter Tryz.func106, Tryz.ntmps106
    go_wp2
    go_ret
    exact ⟨ret_bool (by unfold validB; symm; simp; omega), rfl⟩
theorem valid_true {t : Int} : validB t = true ↔ 16 ≤ t ∧ t < 1048576 ∧ t % 16 ≤ 8 := by unfold validB; simp
theorem valid_false {t : Int} : validB t = false ↔ ¬ (16 ≤ t ∧ t < 1048576 ∧ t % 16 ≤ 8) := by unfold validB; simp
theorem sCount_any (t : Int) (w : World) : Calls Tryz.prog 59 #[.int .i64 t] w fun e w' => e = .returned (.int .i64 (countI t)) ∧ w = w' := by
  rcases hv : validB t with _ | _
  · go_enter Tryz.func59, Tryz.ntmps59
    go_wp2_with (go_at_call 106; refine (sValid_any _ _).mono ?_; rintro e w' ⟨rfl, rfl⟩)
    go_ret
    exact ⟨ret_int (by rw [valid_false] at hv; unfold countI; rw [if_neg hv]), rfl⟩
  · have ht := valid_true.mp hv
    obtain ⟨h1, h2, h3⟩ := ht
    go_enter Tryz.func59, Tryz.ntmps59
    go_wp2_with (go_at_call 106; refine (sValid_any _ _).mono ?_; rintro e w' ⟨rfl, rfl⟩)
    go_ret
    exact ⟨ret_int (by unfold countI; rw [if_pos ⟨h1, h2, h3⟩]), rfl⟩
theorem count_bd (t : Int) : 0 ≤ countI t ∧ countI t ≤ 65535 := by unfold countI; split <;> omega
end Go.Proofs.YtlehcaacfgocaaaGreat
namespace Go.Proofs.YtlehcaacfgocaaaGreat
set_option linter.unusedVariables false
open Go.RowKit
open Go.Lib (hid)
set_option maxHeartbeats 1600000 in
set_option maxRecDepth 100000 in
theorem cReservedA (e : Ev) (t : Int) (w : World) (h0 : e.lo = 0) (h1 : e.hi = 0) : Calls Tryz.prog 154 #[.agg e.arr, .int .i64 t] w fun x w' => x = .returned (.agg ({ e with lo := t, hi := t } : Ev).arr) ∧ Below w.heap.size w w' := by
  have hmin : ∀ (ts : Array TypeId) (ty : TypeId) (W : World), (Builtin.min_ ts ty #[.int .i64 t, .int .i64 t, .int .i64 t]).run Tryz.prog W = .ok (.int .i64 t) W := fun ts ty W => by simp [Builtin.min_, Builtin.min2]
  have hmax : ∀ (ts : Array TypeId) (ty : TypeId) (W : World), (Builtin.max_ ts ty #[.int .i64 t, .int .i64 t, .int .i64 t]).run Tryz.prog W = .ok (.int .i64 t) W := fun ts ty W => by simp [Builtin.max_, Builtin.max2]
  have HX : Hid (Ob ((w.alloc (.cells e.arr 67)).alloc zeroEc) w.heap.size 67 e) := hid (box2_heap w e _ _)
  have HZ : Hid (Ob ((w.alloc (.cells e.arr 67)).alloc zeroEc) (w.heap.size + 1) 67 zE) := hid (by have := heap_alloc_new (w.alloc (.cells e.arr 67)) zeroEc; rw [World.size_alloc] at this; exact this)
  have HW : Hid (Below w.heap.size w ((w.alloc (.cells e.arr 67)).alloc zeroEc)) := hid (((Below.refl _ w).alloc (Nat.le_refl _) _).alloc (by simp) _)
  have tok : Hid (0 = 0) := hid rfl
  go_enter Tryz.func154, Tryz.ntmps154
  go_wp2_with (first
    | (clear tok; (with_reducible refine opaqueW ((w.alloc (.cells e.arr 67)).alloc zeroEc) ?_); intro W hW; rw [← hW] at HX HZ HW; clear hW; have c8 := HX.out.cell (j := 8) rfl; have c9 := HX.out.cell (j := 9) rfl; have f8 := HX.out.free 8; have f9 := HX.out.free 9)
    | ((with_reducible refine loadC (x := ?lx) (b := ?lb) (T := 67) ({ e with lo := t, hi := t } : Ev) ?lg ?lo ?lx1 ?lc ?lh); (case lg => rfl); (case lo => rfl); (case lx1 => rfl); (case lc => exact ((((HX.out.set (j := 8) (v := .int .i64 t) (e' := { e with lo := t }) rfl).set (j := 9) (v := .int .i64 t) (e' := { e with lo := t, hi := t }) rfl).set (j := 8) (v := .int .i64 t) (e' := { e with lo := t, hi := t }) rfl).set (j := 9) (v := .int .i64 t) (e' := { e with lo := t, hi := t }) rfl)))
    | ((with_reducible refine storeC (x := ?sx) (y := ?sy) (b := ?sb) (T := 67) ({ e with lo := t, hi := t } : Ev) ?sg ?so ?sx1 ?sy1 ?sc ?sh); (case sg => rfl); (case so => rfl); (case sx1 => rfl); (case sy1 => rfl); (case sc => exact Ob.room (e := zE) (setOther (q := w.heap.size) (j := 9) (v := .int .i64 t) (setOther (q := w.heap.size) (j := 8) (v := .int .i64 t) (setOther (q := w.heap.size) (j := 9) (v := .int .i64 t) (setOther (q := w.heap.size) (j := 8) (v := .int .i64 t) HZ.out (by omega)) (by omega)) (by omega)) (by omega))); intro W2 hO hU; have HO := hid hO; have HU := hid (hU.below _ (Nat.le_succ _)); clear hO hU))
  refine bodyPost_ret (ret_cell1 rfl rfl HO.out.range Tryz.underlying67 rfl (infoEc ({ e with lo := t, hi := t } : Ev))) rfl ⟨?_, ?_⟩
  · rfl
  · exact ((((HW.out.setCell (p := ⟨w.heap.size, 8, none⟩) (Nat.le_refl _) (.int .i64 t)).setCell (p := ⟨w.heap.size, 9, none⟩) (Nat.le_refl _) (.int .i64 t)).setCell (p := ⟨w.heap.size, 8, none⟩) (Nat.le_refl _) (.int .i64 t)).setCell (p := ⟨w.heap.size, 9, none⟩) (Nat.le_refl _) (.int .i64 t)).trans HU.out
set_option maxHeartbeats 1600000 in
set_option maxRecDepth 100000 in
theorem cReservedB (e : Ev) (t m M : Int) (w : World) (h0 : ¬ e.lo = 0) (h1 : ¬ e.hi = 0) (hmin : ∀ (ts : Array TypeId) (ty : TypeId) (W : World), (Builtin.min_ ts ty #[.int .i64 e.lo, .int .i64 e.hi, .int .i64 t]).run Tryz.prog W = .ok (.int .i64 m) W) (hmax : ∀ (ts : Array TypeId) (ty : TypeId) (W : World), (Builtin.max_ ts ty #[.int .i64 e.lo, .int .i64 e.hi, .int .i64 t]).run Tryz.prog W = .ok (.int .i64 M) W) : Calls Tryz.prog 154 #[.agg e.arr, .int .i64 t] w fun x w' => x = .returned (.agg ({ e with lo := m, hi := M } : Ev).arr) ∧ Below w.heap.size w w' := by
  have hq0 : (e.lo == 0) = false := by simp [h0]
  have hq1 : (e.hi == 0) = false := by simp [h1]
  have HX : Hid (Ob ((w.alloc (.cells e.arr 67)).alloc zeroEc) w.heap.size 67 e) := hid (box2_heap w e _ _)
  have HZ : Hid (Ob ((w.alloc (.cells e.arr 67)).alloc zeroEc) (w.heap.size + 1) 67 zE) := hid (by have := heap_alloc_new (w.alloc (.cells e.arr 67)) zeroEc; rw [World.size_alloc] at this; exact this)
  have HW : Hid (Below w.heap.size w ((w.alloc (.cells e.arr 67)).alloc zeroEc)) := hid (((Below.refl _ w).alloc (Nat.le_refl _) _).alloc (by simp) _)
  have tok : Hid (0 = 0) := hid rfl
  go_enter Tryz.func154, Tryz.ntmps154
  go_wp2_with (first
    | (clear tok; (with_reducible refine opaqueW ((w.alloc (.cells e.arr 67)).alloc zeroEc) ?_); intro W hW; rw [← hW] at HX HZ HW; clear hW; have c8 := HX.out.cell (j := 8) rfl; have c9 := HX.out.cell (j := 9) rfl; have f8 := HX.out.free 8; have f9 := HX.out.free 9)
    | ((with_reducible refine loadC (x := ?lx) (b := ?lb) (T := 67) ({ e with lo := m, hi := M } : Ev) ?lg ?lo ?lx1 ?lc ?lh); (case lg => rfl); (case lo => rfl); (case lx1 => rfl); (case lc => exact ((HX.out.set (j := 8) (v := .int .i64 m) (e' := { e with lo := m }) rfl).set (j := 9) (v := .int .i64 M) (e' := { e with lo := m, hi := M }) rfl)))
    | ((with_reducible refine storeC (x := ?sx) (y := ?sy) (b := ?sb) (T := 67) ({ e with lo := m, hi := M } : Ev) ?sg ?so ?sx1 ?sy1 ?sc ?sh); (case sg => rfl); (case so => rfl); (case sx1 => rfl); (case sy1 => rfl); (case sc => exact Ob.room (e := zE) (setOther (q := w.heap.size) (j := 9) (v := .int .i64 M) (setOther (q := w.heap.size) (j := 8) (v := .int .i64 m) HZ.out (by omega)) (by omega))); intro W2 hO hU; have HO := hid hO; have HU := hid (hU.below _ (Nat.le_succ _)); clear hO hU))
  refine bodyPost_ret (ret_cell1 rfl rfl HO.out.range Tryz.underlying67 rfl (infoEc ({ e with lo := m, hi := M } : Ev))) rfl ⟨?_, ?_⟩
  · rfl
  · exact ((HW.out.setCell (p := ⟨w.heap.size, 8, none⟩) (Nat.le_refl _) (.int .i64 m)).setCell (p := ⟨w.heap.size, 9, none⟩) (Nat.le_refl _) (.int .i64 M)).trans HU.out
theorem valid_iff {t : Int} : validB t = true ↔ 16 ≤ t ∧ t < 1048576 ∧ t % 16 ≤ 8 := by unfold validB; simp
theorem times_cases {lo hi : Int} (h : timesB lo hi = true) : (lo = 0 ∧ hi = 0) ∨ (validB lo = true ∧ validB hi = true ∧ lo ≤ hi) := by
  unfold timesB at h
  rw [Bool.or_eq_true, Bool.and_eq_true, Bool.and_eq_true, Bool.and_eq_true] at h
  rcases h with ⟨a, b⟩ | ⟨⟨a, b⟩, c⟩
  · exact .inl ⟨of_decide_eq_true a, of_decide_eq_true b⟩
  · exact .inr ⟨a, b, of_decide_eq_true c⟩
theorem cReserved (e : Ev) (t : Int) (w : World) (ht : timesB e.lo e.hi = true) (hv : validB t = true) : Calls Tryz.prog 154 #[.agg e.arr, .int .i64 t] w fun x w' => x = .returned (.agg (resE e t).1.arr) ∧ Below w.heap.size w w' := by
  have h16 := (valid_iff.1 hv).1
  rcases times_cases ht with ⟨h0, h1⟩ | ⟨h0, h1, hle⟩
  · have : (resE e t).1 = { e with lo := t, hi := t } := by unfold resE loE hiE; rw [hv, if_neg (by simp), if_pos (.inl h0), if_pos (by omega)]
    rw [this]
    exact cReservedA e t w h0 h1
  · have g0 := (valid_iff.1 h0).1
    have g1 := (valid_iff.1 h1).1
    have : (resE e t).1 = { e with lo := (if t < e.lo then t else e.lo), hi := (if e.hi < t then t else e.hi) } := by
      unfold resE loE hiE
      rw [hv, if_neg (by simp)]
      by_cases h : t < e.lo
      · rw [if_pos (.inr h), if_pos h]
      · rw [if_neg (by omega), if_neg h]
    rw [this]
    refine cReservedB e t _ _ w (by omega) (by omega) (fun ts ty W => ?_) (fun ts ty W => ?_)
    · have hle' : ¬ e.hi < e.lo := by omega
      simp [Builtin.min_, Builtin.min2, hle']
    · have hle' : (if e.lo < e.hi then e.hi else e.lo) = e.hi := by split <;> omega
      simp [Builtin.max_, Builtin.max2, hle']
end Go.Proofs.YtlehcaacfgocaaaGreat
namespace Go.Proofs.YtlehcaacfgocaaaGreat
set_option linter.unusedVariables false
open Go.RowKit
open Go.Lib (hid)
set_option maxHeartbeats 600000 in
set_option maxRecDepth 100000 in
theorem cEqual {v v' : Value} {cs ds : List C7} {w : World} (h : Sl w v cs) (h' : Sl w v' ds) (hl : cs.length ≤ 100000) (hl' : ds.length ≤ 100000) : Calls Tryz.prog 172 #[v, v'] w fun e w' => e = .returned (.bool (sameB cs ds)) ∧ Below w.heap.size w w' := by
  obtain ⟨b, o, cap, a, rfl, ha, hc, hb⟩ := h.open
  obtain ⟨b', o', cap', a', rfl, ha', hc', hb'⟩ := h'.open
  clear h h'
  by_cases hlen : cs.length = ds.length
  · rw [hlen] at ha hb hl
    rw [hlen]
    have HL := hid hlen
    clear hlen
    go_enter Tryz.func172, Tryz.ntmps172
    go_wp2
    go_loopw [13] (fun i wr => ∃ k : Nat, k ≤ ds.length ∧ i = .int .i64 k ∧ Hid (∀ j, j < k → ∀ x, cs[j]? = some x → ∀ y, ds[j]? = some y → x.same y = true) ∧ Below w.heap.size w wr) (fun i _ => ds.length - (intOf i).toNat)
    case atStart => exact ⟨0, Nat.zero_le _, rfl, fun j hj => absurd hj (by omega), Below.refl _ _⟩
    case round =>
      obtain ⟨k, hk, rfl, hak, hB⟩ := hrel
      by_cases hlt : k < ds.length
      · obtain rfl := ha (by omega)
        obtain rfl := ha' (by omega)
        obtain ⟨x, hxx⟩ : ∃ x, cs[k]? = some x := ⟨cs[k]'(by rw [HL.out]; exact hlt), List.getElem?_eq_getElem (by rw [HL.out]; exact hlt)⟩
        obtain ⟨y, hyy⟩ : ∃ y, ds[k]? = some y := ⟨ds[k], List.getElem?_eq_getElem (by omega)⟩
        have hbw := hb (by omega)
        have hbw' := hb' (by omega)
        obtain ⟨c0, c1, c2, c3, c4, c5, c6⟩ := (hc.on hB hbw).at hxx
        obtain ⟨d0, d1, d2, d3, d4, d5, d6⟩ := (hc'.on hB hbw').at hyy
        have HX := hid (And.intro hxx hyy)
        have HB := hid hB
        clear hxx hyy hB
        rcases hs : x.same y with _ | _
        · have hE := neqC hs
          have hG := fun op p q W => guardC op p q x y W
          have HS := hid hs
          clear hs
          go_wp2
          go_quiet (fail)
          go_wp2
          go_ret
          exact ⟨ret_bool (same_no HX.out.1 HX.out.2 HS.out).symm, Below.drewN' HB.out _⟩
        · have hE := neqC hs
          have hG := fun op p q W => guardC op p q x y W
          have HS := hid hs
          clear hs
          go_wp2
          go_quiet (fail)
          go_wp2
          go_roundw
          case rel => exact ⟨k + 1, by omega, by go_num, same_next hak.out HX.out.1 HX.out.2 HS.out, Below.drewN' HB.out _⟩
          case measure => simp [intOf]; omega
      · have HS : Hid (sameB cs ds = true) := same_yes HL.out (by rw [HL.out]; omega) hak.out
        go_wp2
        go_ret
        exact ⟨ret_bool HS.out.symm, hB⟩
  · have HS : Hid (sameB cs ds = false) := same_len hlen
    go_enter Tryz.func172, Tryz.ntmps172
    go_wp2
    go_ret
    exact ⟨ret_bool HS.out.symm, Below.refl _ _⟩
theorem cSame {v v' : Value} {cs ds : List C7} {w : World} (h : Sl w v cs) (h' : Sl w v' ds) (hl : cs.length ≤ 100000) (hl' : ds.length ≤ 100000) : Calls Tryz.prog 142 #[v, v'] w fun e w' => e = .returned (.bool (sameB cs ds)) ∧ Below w.heap.size w w' := by
  have hE := cEqual h h' hl hl'
  clear h h'
  go_enter Tryz.func142, Tryz.ntmps142
  go_wp2_with (go_at_call 172; refine hE.mono ?_; rintro e w' ⟨rfl, hB⟩)
  go_ret
  exact ⟨rfl, hB⟩
end Go.Proofs.YtlehcaacfgocaaaGreat
namespace Go.Proofs.YtlehcaacfgocaaaGreat
set_option linter.unusedVariables false
open Go.RowKit
open Go.Lib (hid)
theorem cValid (t : Int) (w : World) : Calls Tryz.prog 106 #[.int .i64 t] w fun e w' => e = .returned (.bool (validB t)) ∧ w = w' := by
  by_cases h0 : 16 ≤ t
  · by_cases h1 : t < 1048576
    · by_cases h2 : t % 16 < 9
      · go_enter Tryz.func106, Tryz.ntmps106
        go_wp2
        go_ret
        exact ⟨ret_bool (by unfold validB; symm; simp; omega), rfl⟩
      · go_enter Tryz.func106, Tryz.ntmps106
        go_wp2
        go_ret
        exact ⟨ret_bool (by unfold validB; symm; simp; omega), rfl⟩
    · go_enter Tryz.func106, Tryz.ntmps106
      go_wp2
      go_ret
      exact ⟨ret_bool (by unfold validB; symm; simp; omega), rfl⟩
  · go_enter Tryz.func106, Tryz.ntmps106
    go_wp2
    go_ret
    exact ⟨ret_bool (by unfold validB; symm; simp; omega), rfl⟩
theorem cBallot (t : Int) (w : World) : Calls Tryz.prog 102 #[.int .i64 t] w fun e w' => e = .returned (.bool (withinB t 1048576)) ∧ w = w' := by
  by_cases h0 : 0 ≤ t
  · go_enter Tryz.func102, Tryz.ntmps102
    go_wp2
    go_ret
    exact ⟨ret_bool (by unfold withinB; symm; simp; omega), rfl⟩
  · go_enter Tryz.func102, Tryz.ntmps102
    go_wp2
    go_ret
    exact ⟨ret_bool (by unfold withinB; symm; simp; omega), rfl⟩
set_option maxHeartbeats 600000 in
set_option maxRecDepth 100000 in
theorem cNone {a : Option Addr} {n cap : Nat} {l : List C7} {w : World} (t : Int) (hn : n = l.length) : Calls Tryz.prog 105 #[.agg #[.int .i64 t, .slice a n cap]] w fun e w' => e = .returned (.bool (noneB t l)) ∧ Below w.heap.size w w' := by
  have HN := hid (show noneB t l = (decide (t = 0) && decide (n = 0)) by unfold noneB; rw [hn])
  clear hn
  by_cases ht : t = 0
  · subst ht
    go_enter Tryz.func105, Tryz.ntmps105
    go_wp2
    go_ret
    exact ⟨ret_bool (by rw [HN.out, Bool.eq_iff_iff]; simp), (Below.refl _ w).alloc (Nat.le_refl _) _⟩
  · go_enter Tryz.func105, Tryz.ntmps105
    go_wp2
    go_ret
    exact ⟨ret_bool (by rw [HN.out]; simp [ht]), (Below.refl _ w).alloc (Nat.le_refl _) _⟩
set_option maxHeartbeats 1600000 in
set_option maxRecDepth 100000 in
theorem cTimes (lo hi : Int) (w : World) : Calls Tryz.prog 103 #[.int .i64 lo, .int .i64 hi] w fun e w' => e = .returned (.bool (timesB lo hi)) ∧ w = w' := by
  by_cases h1 : lo = 0
  · subst h1
    by_cases h2 : hi = 0
    · subst h2
      go_enter Tryz.func103, Tryz.ntmps103
      go_wp2_with fail
      go_ret
      exact ⟨ret_bool rfl, rfl⟩
    · have hV : ∀ W, Calls Tryz.prog 106 #[.int .i64 0] W fun e w' => e = .returned (.bool false) ∧ W = w' := fun W => cValid 0 W
      have HE := hid (show timesB 0 hi = false by unfold timesB; rw [show validB 0 = false from rfl]; simp [h2])
      go_enter Tryz.func103, Tryz.ntmps103
      go_wp2_with (go_at_call 106; refine (hV _).mono ?_; rintro x w' ⟨rfl, rfl⟩)
      go_ret
      exact ⟨ret_bool (by rw [HE.out]; simp [h2]), rfl⟩
  · have hV1 := fun W => cValid lo W
    have hV2 := fun W => cValid hi W
    rcases h3 : validB lo with _ | _
    · rw [h3] at hV1
      have HE := hid (show timesB lo hi = false by unfold timesB; rw [h3]; simp [h1])
      clear h3
      go_enter Tryz.func103, Tryz.ntmps103
      go_wp2_with (go_at_call 106; refine (hV1 _).mono ?_; rintro x w' ⟨rfl, rfl⟩)
      go_ret
      exact ⟨ret_bool HE.out.symm, rfl⟩
    · rw [h3] at hV1
      rcases h4 : validB hi with _ | _
      · rw [h4] at hV2
        have HE := hid (show timesB lo hi = false by unfold timesB; rw [h4]; simp [h1])
        clear h3 h4
        go_enter Tryz.func103, Tryz.ntmps103
        go_wp2_with fail
        go_at_call 106
        refine (hV1 _).mono ?_
        rintro x w' ⟨rfl, rfl⟩
        go_wp2_with fail
        go_at_call 106
        refine (hV2 _).mono ?_
        rintro x w' ⟨rfl, rfl⟩
        go_wp2_with fail
        go_ret
        exact ⟨ret_bool HE.out.symm, rfl⟩
      · rw [h4] at hV2
        have HE := hid (show timesB lo hi = decide (lo ≤ hi) by unfold timesB; rw [h3, h4]; simp [h1])
        clear h3 h4
        go_enter Tryz.func103, Tryz.ntmps103
        go_wp2_with fail
        go_at_call 106
        refine (hV1 _).mono ?_
        rintro x w' ⟨rfl, rfl⟩
        go_wp2_with fail
        go_at_call 106
        refine (hV2 _).mono ?_
        rintro x w' ⟨rfl, rfl⟩
        go_wp2_with fail
        go_ret
        exact ⟨ret_bool HE.out.symm, rfl⟩
set_option maxHeartbeats 600000 in
set_option maxRecDepth 100000 in
theorem cFull {v : Value} {l : List C7} {w : World} (t : Int) (h : Sl w v l) (hl : l.length ≤ 1024) : Calls Tryz.prog 137 #[.agg #[.int .i64 t, v]] w fun e w' => e = .returned (.bool (fullB t l)) ∧ Below w.heap.size w w' := by
  obtain ⟨_, _, cap, a, hv, _⟩ := id h
  subst hv
  have hS := cSetRight (h.on ((Below.refl _ w).alloc (Nat.le_refl _) (boxV t (.slice a l.length cap)))) hl
  have hV := fun W => cValid t W
  rcases hv : validB t with _ | _
  · rw [hv] at hV
    have HE := hid (show fullB t l = false by unfold fullB; rw [hv]; rfl)
    clear hv
    go_enter Tryz.func137, Tryz.ntmps137
    go_wp2_with (first | (go_at_call 106; refine (hV _).mono ?_; rintro e w' ⟨rfl, rfl⟩) | (go_at_call 110; refine hS.mono ?_; rintro e w1 ⟨rfl, hB⟩; have HB := hid hB; clear hB))
    go_ret
    exact ⟨ret_bool HE.out.symm, ((Below.refl _ w).alloc (Nat.le_refl _) _)⟩
  · rw [hv] at hV
    have HE := hid (show fullB t l = setB l by unfold fullB; rw [hv]; rfl)
    clear hv
    go_enter Tryz.func137, Tryz.ntmps137
    go_wp2_with (first | (go_at_call 106; refine (hV _).mono ?_; rintro e w' ⟨rfl, rfl⟩) | (go_at_call 110; refine hS.mono ?_; rintro e w1 ⟨rfl, hB⟩; have HB := hid hB; clear hB))
    go_ret
    exact ⟨ret_bool HE.out.symm, ((Below.refl _ w).alloc (Nat.le_refl _) _).trans (HB.out.mono (by simp))⟩
set_option maxHeartbeats 600000 in
set_option maxRecDepth 100000 in
theorem cMust {v : Value} {l : List C7} {w : World} (t : Int) (is : Bool) (h : Sl w v l) (hl : l.length ≤ 1024) : Calls Tryz.prog 104 #[.agg #[.int .i64 t, v], .bool is] w fun e w' => e = .returned (.bool (mustB t l is)) ∧ Below w.heap.size w w' := by
  obtain ⟨_, _, cap, a, hv, _⟩ := id h
  subst hv
  have hF := fun W hB => cFull (w := W) t (h.on hB) hl
  have hN := fun W => cNone (a := a) (cap := cap) (l := l) (w := W) t rfl
  have HE := hid (show mustB t l is = ((is && fullB t l) || (!is && noneB t l)) from rfl)
  clear h
  have HW : Hid (Below w.heap.size w (w.alloc (boxV t (.slice a l.length cap)))) := hid ((Below.refl _ w).alloc (Nat.le_refl _) _)
  rcases is with _ | _
  · go_enter Tryz.func104, Tryz.ntmps104
    go_wp2_with (go_at_call 105; (
            refine (hN _).mono ?_
            rintro e w2 ⟨rfl, hB⟩
            have HB2 := hid hB
            clear hB))
    go_ret
    exact ⟨ret_bool (by rw [HE.out]; simp), by first | exact HB2.out | exact HW.out.trans (HB2.out.mono (by simp))⟩
  · go_enter Tryz.func104, Tryz.ntmps104
    go_wp2_with (go_at_call 137; (
            refine (hF _ (by first | exact HW.out | exact Below.refl _ _)).mono ?_
            rintro e w2 ⟨rfl, hB⟩
            have HB2 := hid hB
            clear hB))
    go_ret
    exact ⟨ret_bool (by rw [HE.out]; simp), by first | exact HB2.out | exact HW.out.trans (HB2.out.mono (by simp))⟩
set_option maxHeartbeats 1600000 in
set_option maxRecDepth 100000 in
theorem cSameVG {v v' : Value} {cs ds : List C7} {w : World} (t t' : Int) (h : Sl w v cs) (h' : Sl w v' ds) (hl : cs.length ≤ 100000) (hl' : ds.length ≤ 100000) : Calls Tryz.prog 155 #[.agg #[.int .i64 t, v], .agg #[.int .i64 t', v']] w fun e w' => e = .returned (.bool (decide (t = t') && sameB cs ds)) ∧ Below w.heap.size w w' := by
  have H := hid h
  have H' := hid h'
  obtain ⟨_, _, cap, a, rfl, _⟩ := h
  obtain ⟨_, _, cap', a', rfl, _⟩ := h'
  have HW : Hid (Below w.heap.size w ((w.alloc (boxV t (.slice a cs.length cap))).alloc (boxV t' (.slice a' ds.length cap')))) := hid (((Below.refl _ w).alloc (Nat.le_refl _) (boxV t (.slice a cs.length cap))).alloc (by simp) (boxV t' (.slice a' ds.length cap')))
  have hS := cSame (H.out.on HW.out) (H'.out.on HW.out) hl hl'
  by_cases ht : t = t'
  · subst ht
    go_enter Tryz.func155, Tryz.ntmps155
    go_wp2_with (go_at_call 142; (
      refine hS.mono ?_
      rintro e w1 ⟨rfl, hB⟩
      have HB := hid hB
      clear hB))
    go_ret
    exact ⟨ret_bool (by simp), HW.out.trans (HB.out.mono (by simp; omega))⟩
  · go_enter Tryz.func155, Tryz.ntmps155
    go_wp2_with fail
    go_ret
    exact ⟨ret_bool (by simp [ht]), HW.out⟩
end Go.Proofs.YtlehcaacfgocaaaGreat
