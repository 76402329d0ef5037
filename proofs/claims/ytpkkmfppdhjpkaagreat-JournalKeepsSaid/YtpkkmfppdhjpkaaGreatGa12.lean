import Derived.Test.YtpkkmfppdhjpkaaGreatObjM
import Derived.Laws.Cover1
import Derived.Test.YtpkkmfppdhjpkaaGreatGa04
import Derived.Test.YtpkkmfppdhjpkaaGreatGa08
import Derived.Test.YtpkkmfppdhjpkaaGreatGa09
import Derived.Lib.QuietBelow
import Derived.BigQuiet
/- Entries by value, the program's own: a timestamp reserved. -/
namespace Go.Proofs.YtpkkmfppdhjpkaaGreat
set_option linter.unusedVariables false
open Go.RowKit
open Go.Lib (hid)

theorem valid_iff {t : Int} : validB t = true ↔ 16 ≤ t ∧ t < 1048576 ∧ t % 16 ≤ 8 := by unfold validB; simp
theorem times_cases {lo hi : Int} (h : timesB lo hi = true) : (lo = 0 ∧ hi = 0) ∨ (validB lo = true ∧ validB hi = true ∧ lo ≤ hi) := by
  unfold timesB at h
  rw [Bool.or_eq_true, Bool.and_eq_true, Bool.and_eq_true, Bool.and_eq_true] at h
  rcases h with ⟨a, b⟩ | ⟨⟨a, b⟩, c⟩
  · exact .inl ⟨of_decide_eq_true a, of_decide_eq_true b⟩
  · exact .inr ⟨a, b, of_decide_eq_true c⟩
end Go.Proofs.YtpkkmfppdhjpkaaGreat
/- Whether two lists of commands are the same: the library's Equal, the program's Same. -/
namespace Go.Proofs.YtpkkmfppdhjpkaaGreat
set_option linter.unusedVariables false
open Go.RowKit
open Go.Lib (hid)

end Go.Proofs.YtpkkmfppdhjpkaaGreat
/- Entries, the program's own small tests: Valid, isBallot, isReserved, isNone, isValue, hasValue, sameValue. -/


namespace Go.Proofs.YtpkkmfppdhjpkaaGreat
set_option linter.unusedVariables false
open Go.RowKit
open Go.Lib (hid)

theorem cValid (t : Int) (w : World) : Calls Tryz.prog 105 #[.int .i64 t] w fun e w' => e = .returned (.bool (validB t)) ∧ w = w' := by
  by_cases h0 : 16 ≤ t
  · by_cases h1 : t < 1048576
    · by_cases h2 : t % 16 < 9
      · go_enter Tryz.func105, Tryz.ntmps105
        go_wp2
        go_ret
        exact ⟨ret_bool (by unfold validB; symm; simp; omega), rfl⟩
      · go_enter Tryz.func105, Tryz.ntmps105
        go_wp2
        go_ret
        exact ⟨ret_bool (by unfold validB; symm; simp; omega), rfl⟩
    · go_enter Tryz.func105, Tryz.ntmps105
      go_wp2
      go_ret
      exact ⟨ret_bool (by unfold validB; symm; simp; omega), rfl⟩
  · go_enter Tryz.func105, Tryz.ntmps105
    go_wp2
    go_ret
    exact ⟨ret_bool (by unfold validB; symm; simp; omega), rfl⟩
theorem cBallot (t : Int) (w : World) : Calls Tryz.prog 41 #[.int .i64 t] w fun e w' => e = .returned (.bool (withinB t 1048576)) ∧ w = w' := by
  by_cases h0 : 0 ≤ t
  · go_enter Tryz.func41, Tryz.ntmps41
    go_wp2
    go_ret
    exact ⟨ret_bool (by unfold withinB; symm; simp; omega), rfl⟩
  · go_enter Tryz.func41, Tryz.ntmps41
    go_wp2
    go_ret
    exact ⟨ret_bool (by unfold withinB; symm; simp; omega), rfl⟩
set_option maxHeartbeats 600000 in
set_option maxRecDepth 100000 in
theorem cNone {a : Option Addr} {n cap : Nat} {l : List C7} {w : World} (t : Int) (hn : n = l.length) : Calls Tryz.prog 91 #[.agg #[.int .i64 t, .slice a n cap]] w fun e w' => e = .returned (.bool (noneB t l)) ∧ Below w.heap.size w w' := by
  have HN := hid (show noneB t l = (decide (t = 0) && decide (n = 0)) by unfold noneB; rw [hn])
  clear hn
  by_cases ht : t = 0
  · subst ht
    go_enter Tryz.func91, Tryz.ntmps91
    go_wp2
    go_ret
    exact ⟨ret_bool (by rw [HN.out, Bool.eq_iff_iff]; simp), (Below.refl _ w).alloc (Nat.le_refl _) _⟩
  · go_enter Tryz.func91, Tryz.ntmps91
    go_wp2
    go_ret
    exact ⟨ret_bool (by rw [HN.out]; simp [ht]), (Below.refl _ w).alloc (Nat.le_refl _) _⟩

set_option maxHeartbeats 1600000 in
set_option maxRecDepth 100000 in
theorem cTimes (lo hi : Int) (w : World) : Calls Tryz.prog 89 #[.int .i64 lo, .int .i64 hi] w fun e w' => e = .returned (.bool (timesB lo hi)) ∧ w = w' := by
  by_cases h1 : lo = 0
  · subst h1
    by_cases h2 : hi = 0
    · subst h2
      go_enter Tryz.func89, Tryz.ntmps89
      go_wp2_with fail
      go_ret
      exact ⟨ret_bool rfl, rfl⟩
    · have hV : ∀ W, Calls Tryz.prog 105 #[.int .i64 0] W fun e w' => e = .returned (.bool false) ∧ W = w' := fun W => cValid 0 W
      have HE := hid (show timesB 0 hi = false by unfold timesB; rw [show validB 0 = false from rfl]; simp [h2])
      go_enter Tryz.func89, Tryz.ntmps89
      go_wp2_with (go_at_call 105; refine (hV _).mono ?_; rintro x w' ⟨rfl, rfl⟩)
      go_ret
      exact ⟨ret_bool (by rw [HE.out]; simp [h2]), rfl⟩
  · have hV1 := fun W => cValid lo W
    have hV2 := fun W => cValid hi W
    rcases h3 : validB lo with _ | _
    · rw [h3] at hV1
      have HE := hid (show timesB lo hi = false by unfold timesB; rw [h3]; simp [h1])
      clear h3
      go_enter Tryz.func89, Tryz.ntmps89
      go_wp2_with (go_at_call 105; refine (hV1 _).mono ?_; rintro x w' ⟨rfl, rfl⟩)
      go_ret
      exact ⟨ret_bool HE.out.symm, rfl⟩
    · rw [h3] at hV1
      rcases h4 : validB hi with _ | _
      · rw [h4] at hV2
        have HE := hid (show timesB lo hi = false by unfold timesB; rw [h4]; simp [h1])
        clear h3 h4
        go_enter Tryz.func89, Tryz.ntmps89
        go_wp2_with fail
        go_at_call 105
        refine (hV1 _).mono ?_
        rintro x w' ⟨rfl, rfl⟩
        go_wp2_with fail
        go_at_call 105
        refine (hV2 _).mono ?_
        rintro x w' ⟨rfl, rfl⟩
        go_wp2_with fail
        go_ret
        exact ⟨ret_bool HE.out.symm, rfl⟩
      · rw [h4] at hV2
        have HE := hid (show timesB lo hi = decide (lo ≤ hi) by unfold timesB; rw [h3, h4]; simp [h1])
        clear h3 h4
        go_enter Tryz.func89, Tryz.ntmps89
        go_wp2_with fail
        go_at_call 105
        refine (hV1 _).mono ?_
        rintro x w' ⟨rfl, rfl⟩
        go_wp2_with fail
        go_at_call 105
        refine (hV2 _).mono ?_
        rintro x w' ⟨rfl, rfl⟩
        go_wp2_with fail
        go_ret
        exact ⟨ret_bool HE.out.symm, rfl⟩

set_option maxHeartbeats 600000 in
set_option maxRecDepth 100000 in
theorem cFull {v : Value} {l : List C7} {w : World} (t : Int) (h : Sl w v l) (hl : l.length ≤ 1024) : Calls Tryz.prog 106 #[.agg #[.int .i64 t, v]] w fun e w' => e = .returned (.bool (fullB t l)) ∧ Below w.heap.size w w' := by
  obtain ⟨_, _, cap, a, hv, _⟩ := id h
  subst hv
  have hS := cSetRight (h.on ((Below.refl _ w).alloc (Nat.le_refl _) (boxV t (.slice a l.length cap)))) hl
  have hV := fun W => cValid t W
  rcases hv : validB t with _ | _
  · rw [hv] at hV
    have HE := hid (show fullB t l = false by unfold fullB; rw [hv]; rfl)
    clear hv
    go_enter Tryz.func106, Tryz.ntmps106
    go_wp2_with (first | (go_at_call 105; refine (hV _).mono ?_; rintro e w' ⟨rfl, rfl⟩) | (go_at_call 88; refine hS.mono ?_; rintro e w1 ⟨rfl, hB⟩; have HB := hid hB; clear hB))
    go_ret
    exact ⟨ret_bool HE.out.symm, ((Below.refl _ w).alloc (Nat.le_refl _) _)⟩
  · rw [hv] at hV
    have HE := hid (show fullB t l = setB l by unfold fullB; rw [hv]; rfl)
    clear hv
    go_enter Tryz.func106, Tryz.ntmps106
    go_wp2_with (first | (go_at_call 105; refine (hV _).mono ?_; rintro e w' ⟨rfl, rfl⟩) | (go_at_call 88; refine hS.mono ?_; rintro e w1 ⟨rfl, hB⟩; have HB := hid hB; clear hB))
    go_ret
    exact ⟨ret_bool HE.out.symm, ((Below.refl _ w).alloc (Nat.le_refl _) _).trans (HB.out.mono (by simp))⟩

set_option maxHeartbeats 600000 in
set_option maxRecDepth 100000 in
theorem cMust {v : Value} {l : List C7} {w : World} (t : Int) (is : Bool) (h : Sl w v l) (hl : l.length ≤ 1024) : Calls Tryz.prog 90 #[.agg #[.int .i64 t, v], .bool is] w fun e w' => e = .returned (.bool (mustB t l is)) ∧ Below w.heap.size w w' := by
  obtain ⟨_, _, cap, a, hv, _⟩ := id h
  subst hv
  have hF := fun W hB => cFull (w := W) t (h.on hB) hl
  have hN := fun W => cNone (a := a) (cap := cap) (l := l) (w := W) t rfl
  have HE := hid (show mustB t l is = ((is && fullB t l) || (!is && noneB t l)) from rfl)
  clear h
  have HW : Hid (Below w.heap.size w (w.alloc (boxV t (.slice a l.length cap)))) := hid ((Below.refl _ w).alloc (Nat.le_refl _) _)
  rcases is with _ | _
  · go_enter Tryz.func90, Tryz.ntmps90
    go_wp2_with (go_at_call 91; (
            refine (hN _).mono ?_
            rintro e w2 ⟨rfl, hB⟩
            have HB2 := hid hB
            clear hB))
    go_ret
    exact ⟨ret_bool (by rw [HE.out]; simp), by first | exact HB2.out | exact HW.out.trans (HB2.out.mono (by simp))⟩
  · go_enter Tryz.func90, Tryz.ntmps90
    go_wp2_with (go_at_call 106; (
            refine (hF _ (by first | exact HW.out | exact Below.refl _ _)).mono ?_
            rintro e w2 ⟨rfl, hB⟩
            have HB2 := hid hB
            clear hB))
    go_ret
    exact ⟨ret_bool (by rw [HE.out]; simp), by first | exact HB2.out | exact HW.out.trans (HB2.out.mono (by simp))⟩

end Go.Proofs.YtpkkmfppdhjpkaaGreat
/- Entries by value, the program's own type: loads, stores; its Promise, Ahead, Holds. -/

namespace Go.Proofs.YtpkkmfppdhjpkaaGreat
set_option linter.unusedVariables false
open Go.RowKit
open Go.Lib (hid)

abbrev boxEc (w : World) (e : Ev) : World := (w.alloc (.cells e.arr 48)).alloc zeroEc
theorem boxEc_range (w : World) (e : Ev) : (boxEc w e).rangeAt w.heap.size 0 e.list := World.rangeAt_alloc (rangeNew w e _) _
theorem boxEc_there (w : World) (e : Ev) : (boxEc w e).there (w.heap.size + 1) 0 19 := by
  have := thereNew (w.alloc (.cells e.arr 48)) #[.int .i64 0, .int .i64 0, .int .i64 0, .int .i64 0, .int .i64 0, .int .i64 0, .int .i64 0, .int .i64 0, .int .i64 0, .int .i64 0, .int .i64 0, .slice none 0 0, .int .i64 0, .int .i64 0, .slice none 0 0, .bool false, .bool false, .int .i64 0, .slice none 0 0] 48 19 (by decide)
  rwa [World.size_alloc] at this
theorem boxEc_frozen (w : World) (e : Ev) (j : Nat) : (boxEc w e).frozen? ⟨w.heap.size, j, none⟩ = false := by
  have h : (boxEc w e).heap[w.heap.size]? = some (.cells e.arr 48) := (Below.heap_alloc _ _ _ (by simp)).trans (heap_alloc_new w _)
  exact frozenAt h j
theorem boxEc_below (w : World) (e : Ev) : Below w.heap.size w (boxEc w e) := ((Below.refl _ w).alloc (Nat.le_refl _) _).alloc (by simp) _
theorem boxEc_cell (w : World) (e : Ev) {j : Nat} {v : Value} (h : e.list[j]? = some v) : (boxEc w e).cell? ⟨w.heap.size, j, none⟩ = some v := by
  have := boxEc_range w e j v h; rwa [Nat.zero_add] at this

set_option maxHeartbeats 1600000 in
set_option maxRecDepth 100000 in
theorem cPromise (e : Ev) (b : Int) (w : World) : Calls Tryz.prog 18 #[.agg e.arr, .int .i64 b] w fun x w' => x = .returned (.tuple #[.agg (promE e b).1.arr, .int .i64 (promE e b).2]) ∧ Below w.heap.size w w' := by
  have hB := fun W => cBallot b W
  have hr := boxEc_range w e
  have ht := boxEc_there w e
  have c7 : (boxEc w e).cell? ⟨w.heap.size, 7, none⟩ = some (.int .i64 e.pr) := by have := hr 7 _ rfl; rwa [Nat.zero_add] at this
  have f7 := boxEc_frozen w e 7
  rcases hb : withinB b 1048576 with _ | _
  · rw [hb] at hB
    have HE := hid (show promE e b = (e, 1) by unfold promE; rw [hb]; rfl)
    clear hb
    go_enter Tryz.func18, Tryz.ntmps18
    go_wp2_with (first
      | (go_at_call 41; refine (hB _).mono ?_; rintro e w' ⟨rfl, rfl⟩)
      | (refine wpList_load_mid rfl 48 _ rfl _ _ rfl e.list _ hr Tryz.underlying48 rfl (infoEc e) ?_)
      | (refine wpList_store_mid rfl 48 _ _ rfl _ _ e.arr rfl rfl ht (infoEc' e) (Ev.one e) ?_))
    refine bodyPost_ret (ret_cell_tmp rfl rfl rfl (setsE ht) Tryz.underlying48 rfl (infoEc e)) rfl ⟨by rw [HE.out]; rfl, ?_⟩
    exact below_cells (by omega) _ _ _ (boxEc_below w e)
  · rw [hb] at hB
    by_cases h1 : b < e.pr
    · have HE := hid (show promE e b = (e, 11) by unfold promE; rw [hb, if_neg (by simp), if_pos h1])
      clear hb
      go_enter Tryz.func18, Tryz.ntmps18
      go_wp2_with (first
        | (go_at_call 41; refine (hB _).mono ?_; rintro e w' ⟨rfl, rfl⟩)
        | (refine wpList_load_mid rfl 48 _ rfl _ _ rfl e.list _ hr Tryz.underlying48 rfl (infoEc e) ?_)
        | (refine wpList_store_mid rfl 48 _ _ rfl _ _ e.arr rfl rfl ht (infoEc' e) (Ev.one e) ?_))
      refine bodyPost_ret (ret_cell_tmp rfl rfl rfl (setsE ht) Tryz.underlying48 rfl (infoEc e)) rfl ⟨by rw [HE.out]; rfl, ?_⟩
      exact below_cells (by omega) _ _ _ (boxEc_below w e)
    · have HE := hid (show promE e b = ({ e with pr := b }, 0) by unfold promE; rw [hb, if_neg (by simp), if_neg h1])
      clear hb
      obtain ⟨e', he'⟩ : ∃ e' : Ev, e' = { e with pr := b } := ⟨_, rfl⟩
      have hArr : e.arr.setIfInBounds 7 (.int .i64 b) = e'.arr := by rw [he']; rfl
      have hr' : ((w.alloc (.cells (e.arr.setIfInBounds 7 (.int .i64 b)) 48)).alloc zeroEc).rangeAt w.heap.size 0 e'.list := by rw [hArr]; exact boxEc_range w e'
      have ht' : ((w.alloc (.cells (e.arr.setIfInBounds 7 (.int .i64 b)) 48)).alloc zeroEc).there (w.heap.size + 1) 0 19 := by rw [hArr]; exact boxEc_there w e'
      have hb' : Below w.heap.size w ((w.alloc (.cells (e.arr.setIfInBounds 7 (.int .i64 b)) 48)).alloc zeroEc) := by rw [hArr]; exact boxEc_below w e'
      have HE' := hid he'
      clear hArr he'
      go_enter Tryz.func18, Tryz.ntmps18
      go_wp2_with (first
        | (go_at_call 41; refine (hB _).mono ?_; rintro e w' ⟨rfl, rfl⟩)
        | (refine wpList_load_mid rfl 48 _ rfl _ _ rfl e'.list _ hr' Tryz.underlying48 rfl (infoEc e') ?_)
        | (refine wpList_store_mid rfl 48 _ _ rfl _ _ e'.arr rfl rfl ht' (infoEc' e') (Ev.one e') ?_))
      refine bodyPost_ret (ret_cell_tmp rfl rfl rfl (setsE ht') Tryz.underlying48 rfl (infoEc e')) rfl ⟨by rw [HE.out, ← HE'.out]; rfl, ?_⟩
      exact below_cells (by omega) _ _ _ hb'
end Go.Proofs.YtpkkmfppdhjpkaaGreat
/- Entries by value, the program's own: Reserve, Vote. -/

namespace Go.Proofs.YtpkkmfppdhjpkaaGreat
set_option linter.unusedVariables false
open Go.RowKit
open Go.Lib (hid)

end Go.Proofs.YtpkkmfppdhjpkaaGreat
/- Entries by value, the program's own: Free, Accept, Finish. -/
namespace Go.Proofs.YtpkkmfppdhjpkaaGreat
set_option linter.unusedVariables false
open Go.RowKit
open Go.Lib (hid)

def accE (e : Ev) (b t : Int) (p : Sv) (full : Bool) : Ev × Int := if full = false ∨ withinB b 1048576 = false ∨ b = 0 then (e, 1) else if b < e.pr then (e, 11) else ({ (resE e t).1 with pr := b, ab := b, xt := t, xp := p }, 0)

def finC (e : Ev) (t : Int) (p : Sv) (full same : Bool) : Ev × Int := if full = false then (e, 1) else if e.dn = true then (if same = true then (e, 0) else (e, 6)) else ({ e with dn := true, vt := t, vp := p }, 0)

end Go.Proofs.YtpkkmfppdhjpkaaGreat
/- A region that draws its order: its first four operations come in one order alone, the rest only reads. -/
namespace Go.Proofs.YtpkkmfppdhjpkaaGreat
set_option linter.unusedVariables false
open Go.RowKit Go.Sort
open Go.Lib (hid)

theorem wpAny_rest4 {P : Program} {o0 o1 o2 o3 : Oper} {l : List Oper} {w0 : World} {Q : Exit → Act → World → Prop} {fuel : Nat} {listed : Array Bool} {a : Act} (hf : fuel = l.length) (hs : Region.noSelect (o0 :: o1 :: o2 :: o3 :: l).toArray = true)
    (hB : Region.lexFrom .any (o0 :: o1 :: o2 :: o3 :: l).toArray l.length 4 listed = true) (h : wpQuiet P (o0 :: o1 :: o2 :: o3 :: l).toArray (fun w' => ∃ p : Regrown, w' = grow (redrawn w0 p.d) p.os) (fun a' => ∀ w', (∃ p : Regrown, w' = grow (redrawn w0 p.d) p.os) → Q .normal a' w') l a) :
    wpAny P .any (o0 :: o1 :: o2 :: o3 :: l).toArray Q fuel listed a w0 := by
  subst hf
  refine wpAny_of_quiet (C := fun w' => ∃ p : Regrown, w' = grow (redrawn w0 p.d) p.os) (Q := fun a' => ∀ w', (∃ p : Regrown, w' = grow (redrawn w0 p.d) p.os) → Q .normal a' w') (fun _ w' hw' h => h w' hw') _ _ _ _ ⟨⟨w0.drawn, #[]⟩, by rw [grow_empty]; rfl⟩ ?_
  exact wpAnyQ_lex hs l 4 listed a (fun j => by simp [Nat.add_comm 4 j]) hB h
theorem quietB {f : FuncId} {args : Array Value} {w1 : World} {v : Value} (h : ∀ W, Below w1.heap.size w1 W → Calls Tryz.prog f args W fun e w' => e = .returned v ∧ Below W.heap.size W w') (d : Nat) (os : Array Obj) :
    Calls Tryz.prog f args (grow (redrawn w1 d) os) fun e w'' => e = .returned v ∧ ∃ p : Regrown, w'' = grow (redrawn w1 p.d) p.os := Calls.regrown_of (h _ (below_regrown w1 d os))
theorem Sl.madeC {W : World} {g : Nat} {c : C7} {T : TypeId} (hg : g = W.heap.size) : Sl (W.alloc (.cells #[.int .i64 c.i, .int .i64 c.k, .int .i64 c.s, .int .i64 c.t, .int .i64 c.d, .int .i64 c.p, .int .i64 c.q] T)) (.slice (Option.some ⟨g, 0, none⟩) 1 1) [c] := by
  subst hg
  refine ⟨W.heap.size, 0, 1, _, rfl, (fun e => by cases e), fun _ => rfl, fun j d hd f v hv => ?_, fun _ => by simp⟩
  cases j with
  | succ j => cases hd
  | zero =>
    cases (show some c = some d from hd)
    rw [Nat.zero_add, Nat.zero_mul, Nat.zero_add, World.cell?_alloc_new]
    match f, hv with
    | 0, hv => exact hv
    | 1, hv => exact hv
    | 2, hv => exact hv
    | 3, hv => exact hv
    | 4, hv => exact hv
    | 5, hv => exact hv
    | 6, hv => exact hv
    | _ + 7, hv => cases hv
end Go.Proofs.YtpkkmfppdhjpkaaGreat
