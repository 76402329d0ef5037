import Derived.Test.YtplodoindppleaaGreatG03
import Derived.Test.YtplodoindppleaaGreatRows
import Derived.WalkKit
import Derived.LoopTactic
import Derived.ProofKit
import Derived.Test.YtplodoindppleaaGreatG08
import Derived.Test.YtplodoindppleaaGreatG10
import Derived.Test.YtplodoindppleaaGreatG04
import Derived.Test.YtplodoindppleaaGreatG02
import Derived.Deep.QuietTactic
import Derived.BigQuiet
namespace Go.Proofs.YtplodoindppleaaGreat
open Go.RowKit
theorem rClassic_yes (n : Int) (w : World) (h : 3 ≤ n) (h' : n ≤ 9) : Calls Tryz.prog 53 #[.int .i64 n] w fun e w' => e = .returned (.int .i64 (n / 2 + 1)) ∧ w = w' := by
 go_enter Tryz.func53, Tryz.ntmps53
 go_wp2
 go_loop [4] (fun i => ∃ k : Nat, 2 * k ≤ n + 2 ∧ i = .int .i64 k) (fun i => (n + 2 - 2 * intOf i).toNat)
 case atStart => exact ⟨0, by omega, rfl⟩
 case round =>
  obtain ⟨k, hk, rfl⟩ := hrel
  by_cases hlt : 2 * (k : Int) ≤ n
  · go_wp2
    go_round
    case rel => exact ⟨k + 1, by omega, by go_num⟩
    case measure => simp [intOf]; omega
  · go_wp2
    go_ret
    exact ⟨ret_int (by omega), rfl⟩
theorem rFast_yes (n : Int) (w : World) (h : 3 ≤ n) (h' : n ≤ 9) : Calls Tryz.prog 52 #[.int .i64 n] w fun e w' => e = .returned (.int .i64 ((3 * n + 3) / 4)) ∧ w = w' := by
 go_enter Tryz.func52, Tryz.ntmps52
 go_wp2
 go_loop [4] (fun i => ∃ k : Nat, 4 * k ≤ 3 * n + 3 ∧ i = .int .i64 k) (fun i => (3 * n + 4 - 4 * intOf i).toNat)
 case atStart => exact ⟨0, by omega, rfl⟩
 case round =>
  obtain ⟨k, hk, rfl⟩ := hrel
  by_cases hlt : 4 * (k : Int) < 3 * n
  · go_wp2
    go_round
    case rel => exact ⟨k + 1, by omega, by go_num⟩
    case measure => simp [intOf]; omega
  · go_wp2
    go_ret
    exact ⟨ret_int (by omega), rfl⟩
theorem sClassic_yes (n : Int) (w : World) (h : 3 ≤ n) (h' : n ≤ 9) : Calls Tryz.prog 26 #[.int .i64 n] w fun e w' => e = .returned (.int .i64 (n / 2 + 1)) ∧ w = w' := by
 go_enter Tryz.func26, Tryz.ntmps26
 go_wp2
 go_ret
 exact ⟨rfl, rfl⟩
theorem sFast_yes (n : Int) (w : World) (h : 3 ≤ n) (h' : n ≤ 9) : Calls Tryz.prog 97 #[.int .i64 n] w fun e w' => e = .returned (.int .i64 ((3 * n + 3) / 4)) ∧ w = w' := by
 go_enter Tryz.func97, Tryz.ntmps97
 go_wp2
 go_ret
 exact ⟨rfl, rfl⟩
theorem sNeed_yes (n q : Int) (w : World) (h : 3 ≤ n) (h' : n ≤ 9) (h0 : 0 ≤ q) (h1 : q ≤ n) : Calls Tryz.prog 122 #[.int .i64 n, .int .i64 q] w fun e w' => e = .returned (.int .i64 ((3 * n + 3) / 4 - (n - q))) ∧ w = w' := by
 go_enter Tryz.func122, Tryz.ntmps122
 go_wp2_with (first | (go_at_call 97; refine (sFast_yes _ _ (by omega) (by omega)).mono ?_; rintro e w' ⟨rfl, rfl⟩) | go_in)
 go_ret
 exact ⟨rfl, rfl⟩
theorem sNeed_no (n q : Int) (w : World) (h : 3 ≤ n) (h' : n ≤ 9) (h0 : q < 0 ∨ n < q) : Calls Tryz.prog 122 #[.int .i64 n, .int .i64 q] w fun e w' => e = .returned (.int .i64 0) ∧ w = w' := by
 rcases h0 with h0 | h0
 · go_enter Tryz.func122, Tryz.ntmps122
   go_wp2
   go_ret
   exact ⟨rfl, rfl⟩
 · have h2 : ¬ q < 0 := by omega
   go_enter Tryz.func122, Tryz.ntmps122
   go_wp2
   go_ret
   exact ⟨rfl, rfl⟩
def rightB (n : Int) : Bool := decide (3 ≤ n ∧ n ≤ 9)
def clI (n : Int) : Int := if 3 ≤ n ∧ n ≤ 9 then n / 2 + 1 else 0
def faI (n : Int) : Int := if 3 ≤ n ∧ n ≤ 9 then (3 * n + 3) / 4 else 0
def neI (n q : Int) : Int := if 3 ≤ n ∧ n ≤ 9 ∧ 0 ≤ q ∧ q ≤ n then (3 * n + 3) / 4 - (n - q) else 0
theorem ret_bool' {a b : Bool} (h : a = b) : Ending.returned (.bool a) = .returned (.bool b) := by rw [h]
theorem sRight_any (n : Int) (w : World) : Calls Tryz.prog 22 #[.int .i64 n] w fun e w' => e = .returned (.bool (rightB n)) ∧ w = w' := by
 by_cases h0 : 3 ≤ n
 · by_cases h1 : n ≤ 9
   · go_enter Tryz.func22, Tryz.ntmps22
     go_wp2
     go_ret
     exact ⟨ret_bool' (by unfold rightB; symm; simp; omega), rfl⟩
   · go_enter Tryz.func22, Tryz.ntmps22
     go_wp2
     go_ret
     exact ⟨ret_bool' (by unfold rightB; symm; simp; omega), rfl⟩
 · go_enter Tryz.func22, Tryz.ntmps22
   go_wp2
   go_ret
   exact ⟨ret_bool' (by unfold rightB; symm; simp; omega), rfl⟩
theorem rRight_any (n : Int) (w : World) : Calls Tryz.prog 8 #[.int .i64 n] w fun e w' => e = .returned (.bool (rightB n)) ∧ w = w' := by
 by_cases h0 : 3 ≤ n
 · by_cases h1 : n ≤ 9
   · go_enter Tryz.func8, Tryz.ntmps8
     go_wp2
     go_ret
     exact ⟨ret_bool' (by unfold rightB; symm; simp; omega), rfl⟩
   · go_enter Tryz.func8, Tryz.ntmps8
     go_wp2
     go_ret
     exact ⟨ret_bool' (by unfold rightB; symm; simp; omega), rfl⟩
 · go_enter Tryz.func8, Tryz.ntmps8
   go_wp2
   go_ret
   exact ⟨ret_bool' (by unfold rightB; symm; simp; omega), rfl⟩
theorem right_no {n : Int} (h : ¬ (3 ≤ n ∧ n ≤ 9)) : rightB n = false := by unfold rightB; simpa using h
theorem sClassic_any (n : Int) (w : World) : Calls Tryz.prog 26 #[.int .i64 n] w fun e w' => e = .returned (.int .i64 (clI n)) ∧ w = w' := by
 by_cases h : 3 ≤ n ∧ n ≤ 9
 · refine (sClassic_yes n w h.1 h.2).mono ?_
   rintro e w' ⟨rfl, rfl⟩
   exact ⟨ret_int (by unfold clI; rw [if_pos h]), rfl⟩
 · have hr := right_no h
   go_enter Tryz.func26, Tryz.ntmps26
   go_wp2_with (go_at_call 22; refine (sRight_any _ _).mono ?_; rintro e w' ⟨rfl, rfl⟩)
   go_ret
   exact ⟨ret_int (by unfold clI; rw [if_neg h]), rfl⟩
theorem rClassic_any (n : Int) (w : World) : Calls Tryz.prog 53 #[.int .i64 n] w fun e w' => e = .returned (.int .i64 (clI n)) ∧ w = w' := by
 by_cases h : 3 ≤ n ∧ n ≤ 9
 · refine (rClassic_yes n w h.1 h.2).mono ?_
   rintro e w' ⟨rfl, rfl⟩
   exact ⟨ret_int (by unfold clI; rw [if_pos h]), rfl⟩
 · have hr := right_no h
   go_enter Tryz.func53, Tryz.ntmps53
   go_wp2_with (go_at_call 8; refine (rRight_any _ _).mono ?_; rintro e w' ⟨rfl, rfl⟩)
   go_ret
   exact ⟨ret_int (by unfold clI; rw [if_neg h]), rfl⟩
theorem sFast_any (n : Int) (w : World) : Calls Tryz.prog 97 #[.int .i64 n] w fun e w' => e = .returned (.int .i64 (faI n)) ∧ w = w' := by
 by_cases h : 3 ≤ n ∧ n ≤ 9
 · refine (sFast_yes n w h.1 h.2).mono ?_
   rintro e w' ⟨rfl, rfl⟩
   exact ⟨ret_int (by unfold faI; rw [if_pos h]), rfl⟩
 · have hr := right_no h
   go_enter Tryz.func97, Tryz.ntmps97
   go_wp2_with (go_at_call 22; refine (sRight_any _ _).mono ?_; rintro e w' ⟨rfl, rfl⟩)
   go_ret
   exact ⟨ret_int (by unfold faI; rw [if_neg h]), rfl⟩
theorem rFast_any (n : Int) (w : World) : Calls Tryz.prog 52 #[.int .i64 n] w fun e w' => e = .returned (.int .i64 (faI n)) ∧ w = w' := by
 by_cases h : 3 ≤ n ∧ n ≤ 9
 · refine (rFast_yes n w h.1 h.2).mono ?_
   rintro e w' ⟨rfl, rfl⟩
   exact ⟨ret_int (by unfold faI; rw [if_pos h]), rfl⟩
 · have hr := right_no h
   go_enter Tryz.func52, Tryz.ntmps52
   go_wp2_with (go_at_call 8; refine (rRight_any _ _).mono ?_; rintro e w' ⟨rfl, rfl⟩)
   go_ret
   exact ⟨ret_int (by unfold faI; rw [if_neg h]), rfl⟩
theorem sNeed_any (n q : Int) (w : World) : Calls Tryz.prog 122 #[.int .i64 n, .int .i64 q] w fun e w' => e = .returned (.int .i64 (neI n q)) ∧ w = w' := by
 by_cases h : 3 ≤ n ∧ n ≤ 9
 · by_cases h0 : q < 0 ∨ n < q
   · refine (sNeed_no n q w h.1 h.2 h0).mono ?_
     rintro e w' ⟨rfl, rfl⟩
     exact ⟨ret_int (by unfold neI; rw [if_neg (by omega)]), rfl⟩
   · refine (sNeed_yes n q w h.1 h.2 (by omega) (by omega)).mono ?_
     rintro e w' ⟨rfl, rfl⟩
     exact ⟨ret_int (by unfold neI; rw [if_pos (by omega)]), rfl⟩
 · have hr := right_no h
   go_enter Tryz.func122, Tryz.ntmps122
   go_wp2_with (go_at_call 22; refine (sRight_any _ _).mono ?_; rintro e w' ⟨rfl, rfl⟩)
   go_ret
   exact ⟨ret_int (by unfold neI; rw [if_neg (by omega)]), rfl⟩
end Go.Proofs.YtplodoindppleaaGreat
namespace Go.Proofs.YtplodoindppleaaGreat
open Go.RowKit
def ownerI (b n : Int) : Int := if 3 ≤ n ∧ n ≤ 9 ∧ 2 ≤ b ∧ b ≤ 1048576 then (b - 2) % n else -1
theorem sOwner_any (b n : Int) (w : World) : Calls Tryz.prog 25 #[.int .i64 b, .int .i64 n] w fun e w' => e = .returned (.int .i64 (ownerI b n)) ∧ w = w' := by
 by_cases h0 : n < 3
 · go_enter Tryz.func25, Tryz.ntmps25
   go_wp2
   go_ret
   exact ⟨ret_int (by unfold ownerI; rw [if_neg (by omega)]), rfl⟩
 by_cases h1 : 9 < n
 · go_enter Tryz.func25, Tryz.ntmps25
   go_wp2
   go_ret
   exact ⟨ret_int (by unfold ownerI; rw [if_neg (by omega)]), rfl⟩
 by_cases h2 : b < 2
 · go_enter Tryz.func25, Tryz.ntmps25
   go_wp2
   go_ret
   exact ⟨ret_int (by unfold ownerI; rw [if_neg (by omega)]), rfl⟩
 by_cases h3 : 1048576 < b
 · go_enter Tryz.func25, Tryz.ntmps25
   go_wp2
   go_ret
   exact ⟨ret_int (by unfold ownerI; rw [if_neg (by omega)]), rfl⟩
 · go_enter Tryz.func25, Tryz.ntmps25
   go_wp2
   go_ret
   exact ⟨ret_int (by unfold ownerI; rw [if_pos (by omega)]), rfl⟩
end Go.Proofs.YtplodoindppleaaGreat
namespace Go.Proofs.YtplodoindppleaaGreat
set_option linter.unusedVariables false
open Go.RowKit
open Go.Lib (hid)
def isP (m : Ms) : Bool := decide (m.m.so = 4)
def isS (m : Ms) : Bool := decide (m.m.so = 7)
def mayB (m : Ms) : Bool := (decide (m.m.so = 4) || decide (m.m.so = 7)) && rightM m
def hdC (ls : List Ms) : C7 := ((ls.head?).map fun m => m.m.c).getD z7
def okM (n : Int) (c : C7) (l : List Ms) (m : Ms) : Bool := mayB m && (m.m.c.same c && (decide (m.m.fr < n) && l.all fun x => !decide (x.m.fr = m.m.fr)))
def okAll (n : Int) (ls : List Ms) : Bool := (List.range ls.length).all fun k => match ls[k]? with | some m => okM n (hdC ls) (ls.take k) m | none => true
theorem okAll_true {n : Int} {ls : List Ms} : okAll n ls = true ↔ ∀ k m, ls[k]? = some m → okM n (hdC ls) (ls.take k) m = true := by
 unfold okAll
 rw [List.all_eq_true]
 constructor
 · intro h k m hm
   have := h k (List.mem_range.2 (List.getElem?_eq_some_iff.1 hm).1)
   rw [hm] at this; exact this
 · intro h k hk
   rcases hm : ls[k]? with _ | m
   · rfl
   · exact h k m hm
theorem okAll_no {n : Int} {ls : List Ms} {k : Nat} {m : Ms} (hm : ls[k]? = some m) (h : okM n (hdC ls) (ls.take k) m = false) : okAll n ls = false := by
 rcases e : okAll n ls with _ | _
 · rfl
 · rw [okAll_true.1 e k m hm] at h; cases h
def ballB (ls : List Ms) : Bool := match ls.find? isP with | none => true | some f => ls.all fun m => !isP m || decide (m.m.bal = f.m.bal)
theorem ball_no {ls : List Ms} {f m : Ms} (hf : ls.find? isP = some f) (hm : m ∈ ls) (hp : isP m = true) (hb : m.m.bal ≠ f.m.bal) : ballB ls = false := by
 unfold ballB
 rw [hf]
 rw [List.all_eq_false]
 exact ⟨m, hm, by simp [hp, hb]⟩
theorem ball_yes {ls : List Ms} (h : ∀ f, ls.find? isP = some f → ∀ m ∈ ls, isP m = true → m.m.bal = f.m.bal) : ballB ls = true := by
 unfold ballB
 rcases hf : ls.find? isP with _ | f
 · rfl
 · show (ls.all _) = true
   rw [List.all_eq_true]
   intro m hm
   rcases hp : isP m with _ | _
   · rfl
   · simp [h f hf m hm hp]
def promB (n : Int) (ls : List Ms) : Bool := rightB n && (decide (clI n ≤ ls.length) && (okAll n ls && ballB ls))
def accS (b : Option Ms) (m : Ms) : Option Ms := match b with | none => if 0 < m.m.ab then some m else none | some x => if x.m.ab < m.m.ab then some m else some x
def accF (ls : List Ms) : Option Ms := ls.foldl accS none
theorem acc_next {ls : List Ms} {k : Nat} {m : Ms} (h : ls[k]? = some m) : accF (ls.take (k + 1)) = accS (accF (ls.take k)) m := by
 unfold accF
 rw [List.take_add_one, h, List.foldl_append]; rfl
def flagB (ls : List Ms) : Bool := ls.any fun m => m.m.fl
def sameF (x y : Ms) : Bool := decide (x.m.ft = y.m.ft) && sameB x.f y.f
def votesF (ls : List Ms) (y : Ms) : Nat := ls.countP fun x => sameF x y
def hasV (n : Int) (ls : List Ms) (m : Ms) : Bool := validB m.m.ft && decide (neI n ls.length ≤ (votesF ls m : Int))
def decF (n : Int) (ls : List Ms) : Option Ms := if flagB ls = true then none else ls.find? (hasV n ls)
def allRight (ls : List Ms) : Bool := ls.all rightM
def maxS (ls : List Ms) : Int := ls.foldl (fun t m => if t < m.m.s then m.m.s else t) 0
theorem maxS_next {ls : List Ms} {k : Nat} {m : Ms} (h : ls[k]? = some m) : maxS (ls.take (k + 1)) = if maxS (ls.take k) < m.m.s then m.m.s else maxS (ls.take k) := by
 unfold maxS
 rw [List.take_add_one, h, List.foldl_append]; rfl
def setsF (ls : List Ms) : List C7 := ls.flatMap Ms.v
theorem sets_next {ls : List Ms} {k : Nat} {m : Ms} (h : ls[k]? = some m) : setsF (ls.take (k + 1)) = setsF (ls.take k) ++ m.v := by
 unfold setsF
 rw [List.take_add_one, h, List.flatMap_append]; simp
theorem sets_len {n : Nat} : ∀ {ls : List Ms}, (∀ m ∈ ls, m.v.length ≤ n) → (setsF ls).length ≤ ls.length * n
 | [], _ => by simp [setsF]
 | m :: ls, h => by
  have h1 := sets_len (ls := ls) fun x hx => h x (List.mem_cons_of_mem _ hx)
  have h2 := h m List.mem_cons_self
  have : setsF (m :: ls) = m.v ++ setsF ls := by simp [setsF]
  rw [this, List.length_append, List.length_cons, Nat.add_mul]; omega
def freshE (ls : List Ms) : Int := if allRight ls = true then (if validB (maxS ls) = true then ofE2 (setsF ls) else 1) else 1
def freshT (ls : List Ms) : Int := if freshE ls = 0 then maxS ls else 0
def freshL (ls : List Ms) : List C7 := if freshE ls = 0 then ofL2 (setsF ls) else []
structure Cho where
 k : Int
 t : Int
 l : List C7
 e : Int
def choF (n : Int) (ls : List Ms) : Cho :=
 if promB n ls = true then
  match ls.find? isS with
  | some m => ⟨0, m.m.vt, m.v, 0⟩
  | none => match accF ls with
   | some m => ⟨1, m.m.xt, m.a, 0⟩
   | none => match decF n ls with
    | some m => ⟨2, m.m.ft, m.f, 0⟩
    | none => if freshE ls = 0 then ⟨3, freshT ls, freshL ls, 0⟩ else ⟨0, 0, [], freshE ls⟩
 else ⟨0, 0, [], 1⟩
theorem all_next {ls : List Ms} {p : Ms → Bool} {k : Nat} {m : Ms} (h : ls[k]? = some m) (hA : ∀ x ∈ ls.take k, p x = true) (hp : p m = true) : ∀ x ∈ ls.take (k + 1), p x = true := fun x hx => by
 rw [List.take_add_one, h] at hx
 rcases List.mem_append.1 hx with hx | hx
 · exact hA x hx
 · simp at hx; subst hx; exact hp
theorem find_hit {ls : List Ms} {p : Ms → Bool} {k : Nat} {m : Ms} (h : ls[k]? = some m) (hA : ∀ x ∈ ls.take k, p x = false) (hp : p m = true) : ls.find? p = some m := by
 have hk := (List.getElem?_eq_some_iff.1 h).1
 rw [← List.take_append_drop k ls, List.find?_append, List.find?_eq_none.2 (fun x hx => by rw [hA x hx]; decide)]
 have : ls.drop k = m :: ls.drop (k + 1) := by
  rw [List.drop_eq_getElem_cons hk]
  congr 1
  exact (List.getElem?_eq_some_iff.1 h).2
 rw [this]
 simp [hp]
theorem find_miss {ls : List Ms} {p : Ms → Bool} (hA : ∀ x ∈ ls, p x = false) : ls.find? p = none := List.find?_eq_none.2 fun x hx => by rw [hA x hx]; decide
theorem no_next {ls : List Ms} {p : Ms → Bool} {k : Nat} {m : Ms} (h : ls[k]? = some m) (hA : ∀ x ∈ ls.take k, p x = false) (hp : p m = false) : ∀ x ∈ ls.take (k + 1), p x = false := fun x hx => by
 rw [List.take_add_one, h] at hx
 rcases List.mem_append.1 hx with hx | hx
 · exact hA x hx
 · simp at hx; subst hx; exact hp
theorem votes_next {ls : List Ms} {y : Ms} {k : Nat} {m : Ms} (h : ls[k]? = some m) : votesF (ls.take (k + 1)) y = votesF (ls.take k) y + if sameF m y = true then 1 else 0 := by
 unfold votesF
 rw [List.take_add_one, h, List.countP_append]
 simp [List.countP_cons]
theorem right_own {m : Ms} (h : rightM m = true) : inB m.m.so 9 = true ∧ inB m.m.fr 9 = true ∧ inB m.m.tt 9 = true ∧ withinB m.m.bal 1048576 = true ∧ m.m.c.ok = true ∧ ownB m = true := by
 unfold rightM at h
 simp only [Bool.and_eq_true] at h
 exact h
end Go.Proofs.YtplodoindppleaaGreat
namespace Go.Proofs.YtplodoindppleaaGreat
set_option linter.unusedVariables false
open Go.RowKit
open Go.Lib (hid)
def ofA (a : An) : Ms := ⟨⟨a.so, a.fr, a.tt, a.bal, a.c, a.vt, zS, a.fl, a.s, a.ab, a.xt, zS, a.ft, zS⟩, a.vl, a.xl, a.fpl⟩
def nmM (x : Ms) : Ms := ofA x.an
def rightA (a : An) : Bool := rightM (ofA a)
theorem rightA_an (x : Ms) : rightA x.an = rightM x := rfl
theorem nm_map (ls : List Ms) : (ls.map Ms.an).map ofA = ls.map nmM := by rw [List.map_map]; rfl
theorem mayB_nm (x : Ms) : mayB (nmM x) = mayB x := rfl
theorem hdC_nm (ls : List Ms) : hdC (ls.map nmM) = hdC ls := by cases ls <;> rfl
theorem okM_nm (n : Int) (c : C7) (l : List Ms) (m : Ms) : okM n c (l.map nmM) (nmM m) = okM n c l m := by
 unfold okM
 rw [mayB_nm, List.all_map]; rfl
theorem okAll_nm (n : Int) (ls : List Ms) : okAll n (ls.map nmM) = okAll n ls := by
 unfold okAll
 rw [List.length_map, hdC_nm]
 congr 1
 funext k
 rw [List.getElem?_map]
 rcases ls[k]? with _ | m
 · rfl
 · show okM n (hdC ls) ((ls.map nmM).take k) (nmM m) = _
   rw [← List.map_take, okM_nm]
theorem ballB_nm (ls : List Ms) : ballB (ls.map nmM) = ballB ls := by
 unfold ballB
 rw [List.find?_map]
 rw [show (isP ∘ nmM) = isP from rfl]
 rcases ls.find? isP with _ | f
 · rfl
 · show (ls.map nmM).all _ = _
   rw [List.all_map]; rfl
theorem promB_nm (n : Int) (ls : List Ms) : promB n (ls.map nmM) = promB n ls := by
 unfold promB
 rw [List.length_map, okAll_nm, ballB_nm]
theorem accS_nm (b : Option Ms) (m : Ms) : accS (b.map nmM) (nmM m) = (accS b m).map nmM := by
 rcases b with _ | x
 · show (if 0 < m.m.ab then some (nmM m) else none) = _
   show _ = (if 0 < m.m.ab then some m else none).map nmM
   split <;> rfl
 · show (if x.m.ab < m.m.ab then some (nmM m) else some (nmM x)) = _
   show _ = (if x.m.ab < m.m.ab then some m else some x).map nmM
   split <;> rfl
theorem accF_nm' : ∀ (ls : List Ms) (b : Option Ms), (ls.map nmM).foldl accS (b.map nmM) = (ls.foldl accS b).map nmM
 | [], b => rfl
 | m :: ls, b => by
  show (ls.map nmM).foldl accS (accS (b.map nmM) (nmM m)) = _
  rw [accS_nm, accF_nm' ls]; rfl
theorem accF_nm (ls : List Ms) : accF (ls.map nmM) = (accF ls).map nmM := accF_nm' ls none
theorem votesF_nm (ls : List Ms) (y : Ms) : votesF (ls.map nmM) (nmM y) = votesF ls y := by
 unfold votesF
 rw [List.countP_map]; rfl
theorem hasV_nm (n : Int) (ls : List Ms) (m : Ms) : hasV n (ls.map nmM) (nmM m) = hasV n ls m := by
 unfold hasV
 rw [List.length_map, votesF_nm]; rfl
theorem decF_nm (n : Int) (ls : List Ms) : decF n (ls.map nmM) = (decF n ls).map nmM := by
 unfold decF
 have h1 : flagB (ls.map nmM) = flagB ls := by unfold flagB; rw [List.any_map]; rfl
 rw [h1]
 split
 · rfl
 · rw [List.find?_map]
   congr 2
   funext m
   exact hasV_nm n ls m
theorem allRight_nm (ls : List Ms) : allRight (ls.map nmM) = allRight ls := by unfold allRight; rw [List.all_map]; rfl
theorem maxS_nm (ls : List Ms) : maxS (ls.map nmM) = maxS ls := by unfold maxS; rw [List.foldl_map]; rfl
theorem setsF_nm (ls : List Ms) : setsF (ls.map nmM) = setsF ls := by unfold setsF; rw [List.flatMap_map]; rfl
theorem freshE_nm (ls : List Ms) : freshE (ls.map nmM) = freshE ls := by unfold freshE; rw [allRight_nm, maxS_nm, setsF_nm]
theorem freshT_nm (ls : List Ms) : freshT (ls.map nmM) = freshT ls := by unfold freshT; rw [freshE_nm, maxS_nm]
theorem freshL_nm (ls : List Ms) : freshL (ls.map nmM) = freshL ls := by unfold freshL; rw [freshE_nm, setsF_nm]
theorem choF_nm (n : Int) (ls : List Ms) : choF n (ls.map nmM) = choF n ls := by
 unfold choF
 rw [promB_nm, accF_nm, decF_nm, freshE_nm, freshT_nm, freshL_nm, List.find?_map, show (isS ∘ nmM) = isS from rfl]
 split
 · rcases ls.find? isS with _ | m
   · rcases accF ls with _ | m
     · rcases decF n ls with _ | m <;> rfl
     · rfl
   · rfl
 · rfl
structure Att where
 c : C7
 bal : Int
 ph : Int
 vt : Int
 vl : List C7
 ex : Bool
 rs : List An
abbrev Res := Option Att × List An
def mkA (nd : Int) (c : C7) (bal so vt : Int) (vl : List C7) (fl : Bool) (tt : Int) : An := ⟨so, nd, tt, if so = 7 then 0 else bal, c, vt, vl, fl, 0, 0, 0, [], 0, []⟩
def allF (nd N : Int) (c : C7) (bal so vt : Int) (vl : List C7) (fl : Bool) : List An :=
 if rightA (mkA nd c bal so vt vl fl 0) = true then (List.range N.toNat).map (fun (k : Nat) => mkA nd c bal so vt vl fl (k : Int)) else []
def saidF (ss : List Int) (rs : List An) : List An := rs.filter fun r => ss.contains r.so
def okL (a : Att) : List An := saidF [1] a.rs
def refL (a : Att) : List An := saidF [2] a.rs
def proL (a : Att) : List An := saidF [4] a.rs
def accL (a : Att) : List An := saidF [6] a.rs
def votes (a : Att) : Nat := (okL a).countP An.fl
def uniL (a : Att) (more : List C7) : List C7 := a.vl ++ more ++ (okL a).flatMap An.vl
def finF (nd N : Int) (a : Att) (t : Int) (l : List C7) : Res := (none, allF nd N a.c a.bal 7 t l false)
def propF (nd N : Int) (a : Att) (t : Int) (l : List C7) (ex : Bool) : Res := (some { a with ph := 3, vt := t, vl := l, ex := ex, rs := proL a }, allF nd N a.c a.bal 0 t l ex)
def closF (nd N : Int) (a : Att) (t : Int) (l : List C7) : Res := (some { a with ph := 4, vt := t, vl := l }, allF nd N a.c a.bal 5 t l false)
def closAllF (nd N : Int) (a : Att) : Res := if ofE2 (uniL a []) = 0 then closF nd N a a.vt (ofL2 (uniL a [])) else (none, [])
def freeF (nd N : Int) (a : Att) (t : Int) (l : List C7) (e : Int) : Res := if e = 0 then propF nd N a t l false else (none, [])
def frE (rs : List An) : Int := freshE (rs.map ofA)
def frT (rs : List An) : Int := freshT (rs.map ofA)
def frL (rs : List An) : List C7 := freshL (rs.map ofA)
def raiseF (nd N : Int) (a : Att) : Res :=
 if frE (refL a) = 0 then freeF nd N a (frT (refL a)) (ofL2 (uniL a (frL (refL a)))) (ofE2 (uniL a (frL (refL a)))) else (none, [])
def slowF (nd N : Int) (a : Att) : Res := if clI N ≤ (okL a).length then closAllF nd N { a with bal := 1 } else raiseF nd N { a with bal := 1 }
def askedF (nd N : Int) (a : Att) : Res :=
 if faI N ≤ votes a then finF nd N a a.vt a.vl
 else if N - faI N < (a.rs.length : Int) - votes a ∧ clI N ≤ a.rs.length then slowF nd N a
 else (some a, [])
def proposedF (nd N : Int) (a : Att) : Res :=
 if clI N ≤ (okL a).length then closAllF nd N a
 else if a.ex = true ∧ 0 < (refL a).length then freeF nd N a (frT (saidF [4, 2] a.rs)) (frL (saidF [4, 2] a.rs)) (frE (saidF [4, 2] a.rs))
 else if N - clI N < (refL a).length then raiseF nd N a
 else (some a, [])
def Att.add (a : Att) (m : An) : Att := { a with rs := a.rs ++ [m] }
def voteF (nd N : Int) (a : Att) (m : An) : Res :=
 if m.vt ≠ a.vt ∨ (a.ph ≠ 1 ∧ a.ph ≠ 3) then (some a, [])
 else if a.ph = 1 then askedF nd N (a.add m) else proposedF nd N (a.add m)
def goOnF (nd N : Int) (a : Att) (ch : Cho) : Res :=
 if ch.k = 0 then finF nd N a ch.t ch.l
 else if ch.k = 1 then closF nd N a ch.t ch.l
 else if ch.k = 2 then (if a.ph = 3 ∧ a.vt = ch.t ∧ sameB a.vl ch.l = true then (some a, []) else propF nd N a ch.t ch.l true)
 else propF nd N a ch.t ch.l false
def choA (N : Int) (rs : List An) : Cho := choF N (rs.map ofA)
def promiseF (nd N : Int) (a : Att) (m : An) : Res :=
 if a.ph ≠ 2 ∧ ¬ (a.ph = 3 ∧ a.ex = true) then (some a, [])
 else if ((proL (a.add m)).length : Int) < clI N then (some (a.add m), [])
 else if (choA N (proL (a.add m))).e = 0 then goOnF nd N (a.add m) (choA N (proL (a.add m)))
 else (none, [])
def acceptedF (nd N : Int) (a : Att) (m : An) : Res :=
 if a.ph ≠ 4 then (some a, [])
 else if ((accL (a.add m)).length : Int) < clI N then (some (a.add m), [])
 else finF nd N (a.add m) a.vt a.vl
def cntI (s : Int) : Int := if s = 2 then 1 else s
def hasF (a : Att) (m : An) : Bool := a.rs.any fun r => decide (r.fr = m.fr) && decide (cntI r.so = cntI m.so)
def replyF (nd N : Int) (a : Att) (m : An) : Res :=
 if m.so = 7 then finF nd N a m.vt m.vl
 else if m.bal ≠ a.bal ∨ hasF a m = true then (some a, [])
 else if m.so = 1 ∨ m.so = 2 then voteF nd N a m
 else if m.so = 4 then promiseF nd N a m
 else if m.so = 6 then acceptedF nd N a m
 else if m.so = 8 then (none, [])
 else (some a, [])
def beginF (nd N : Int) (old : Option Att) (a : Att) (so vt : Int) (vl : List C7) : Res :=
 if rightA (mkA nd a.c a.bal so vt vl false 0) = true then (some a, allF nd N a.c a.bal so vt vl false) else (old, [])
abbrev Lst := Int → Option Att
def Lst.put (g : Lst) (i : Int) (o : Option Att) : Lst := fun j => if j = i then o else g j
def startF (nd N : Int) (g : Lst) (c : C7) (vt : Int) (vl : List C7) : Lst × List An :=
 let r := beginF nd N (g c.i) ⟨c, 0, 1, vt, vl, false, []⟩ 0 vt vl
 (g.put c.i r.1, r.2)
def takeF (nd N : Int) (g : Lst) (c : C7) (bal : Int) : Lst × List An :=
 if ownerI bal N = nd then
  let r := beginF nd N (g c.i) ⟨c, bal, 2, 0, [], false, []⟩ 3 0 []
  (g.put c.i r.1, r.2)
 else (g, [])
def hurryF (nd N : Int) (g : Lst) (i : Int) : Lst × List An :=
 match g i with
 | none => (g, [])
 | some a => if a.ph ≠ 1 ∨ (a.rs.length : Int) < clI N then (g, []) else let r := slowF nd N a; (g.put i r.1, r.2)
def handF (nd N : Int) (g : Lst) (m : An) : Lst × List An :=
 if rightA m = true ∧ m.tt = nd ∧ m.fr < N then
  match g m.c.i with
  | none => (g, [])
  | some a => if a.c.same m.c = true then let r := replyF nd N a m; (g.put m.c.i r.1, r.2) else (g, [])
 else (g, [])
end Go.Proofs.YtplodoindppleaaGreat
namespace Go.Proofs.YtplodoindppleaaGreat
set_option linter.unusedVariables false
open Go.RowKit
open Go.Lib (hid)
open Go.Deep (blk_setCell_other nblk_setCell)
inductive IdxPost (p : Mg → Bool) (ws : List Mg) : Ending → Prop
 | miss : (∀ x ∈ ws, p x = false) → IdxPost p ws (.returned (.int .i64 (-1)))
 | hit (k : Nat) (x : Mg) : ws[k]? = some x → p x = true → (∀ y ∈ ws.take k, p y = false) → IdxPost p ws (.returned (.int .i64 k))
set_option maxHeartbeats 4000000 in
set_option maxRecDepth 100000 in
theorem cIndexFuncM {w : World} {v : Value} {ws : List Mg} (h : SlM w v ws) (hl : ws.length ≤ 1000000) (p : Mg → Bool) (g : Nat) (lb : Array Value) (eg : ∀ args w, (callFunc g args).run Tryz.prog w = .ok (.enter g args) w)
 (hp : ∀ (W : World) (x : Mg), Below w.heap.size w W → Calls Tryz.prog g (#[.agg x.arr] ++ lb) W fun e w' => e = .returned (.bool (p x)) ∧ Below W.heap.size W w') :
 Calls Tryz.prog 95 #[v, .func (.func g) #[] lb] w fun e w' => IdxPost p ws e ∧ Below w.heap.size w w' := by
 obtain ⟨b, o, cap, a, rfl, ha, hc, hb⟩ := h
 have HC := hid hc
 have HP := hid hp
 have HB := hid hb
 obtain ⟨n, hnl⟩ : ∃ n, n = ws.length := ⟨_, rfl⟩
 rw [← hnl] at hl ha hb ⊢
 have HN := hid hnl
 clear hc hp hnl
 go_enter Tryz.func95, Tryz.ntmps95
 go_wp2_with fail
 go_loopg [5, 8] n (fun gg _ s8 wr => ∃ kk : Nat, kk ≤ n ∧ n - kk ≤ gg ∧ s8 = .int .i64 kk ∧ Hid (Below w.heap.size w wr) ∧ Hid (∀ y ∈ ws.take kk, p y = false))
 case atStart => exact ⟨0, Nat.zero_le _, by omega, rfl, hid (Below.refl _ w), hid (by simp)⟩
 case round =>
  obtain ⟨kk, hkk, hg, rfl, BW, A⟩ := hrel
  by_cases hlt : kk < n
  · have hltz : (kk : Int) < (n : Int) := by omega
    obtain rfl := ha (by omega)
    obtain ⟨x, hx⟩ : ∃ x, ws[kk]? = some x := ⟨ws[kk]'(by rw [← HN.out]; exact hlt), List.getElem?_eq_getElem (by rw [← HN.out]; exact hlt)⟩
    have HR : Hid (wr.rangeAt b (o + kk * 20) x.list) := hid ((HC.out.on BW.out fun h0 => HB.out h0) kk x hx)
    have HX := hid hx
    have hcall := HP.out wr x BW.out
    clear hx
    obtain ⟨r, hr⟩ : ∃ r, r = p x := ⟨_, rfl⟩
    rw [← hr] at hcall
    have HQ := hid hr
    have HCL := hid hcall
    clear hr hcall
    rcases r with _ | _
    · go_wp2_with (first
       | ((with_reducible refine loadMl (x := ?lx1) (b := ?lb1) (o := ?lo1) x ?lg1 ?lp1 ?lxx1 ?lc1 ?_); (case lg1 => rfl); (case lp1 => rfl); (case lxx1 => rfl); (case lc1 => exact HR.out))
       | (go_at_fn g; refine HCL.out.mono ?_; rintro e w' ⟨rfl, hb'⟩; have HB' := hid hb'; clear hb')
       | fail)
      go_roundg (n - (kk + 1))
      case measure => omega
      case rel => exact ⟨kk + 1, by omega, by omega, by go_num, hid (BW.out.trans (HB'.out.mono BW.out.size)), hid fun y hy => by
       rw [List.take_add_one, HX.out] at hy
       rcases List.mem_append.1 hy with hy | hy
       · exact A.out y hy
       · simp at hy; subst hy; exact HQ.out.symm⟩
    · go_wp2_with (first
       | ((with_reducible refine loadMl (x := ?lx2) (b := ?lb2) (o := ?lo2) x ?lg2 ?lp2 ?lxx2 ?lc2 ?_); (case lg2 => rfl); (case lp2 => rfl); (case lxx2 => rfl); (case lc2 => exact HR.out))
       | (go_at_fn g; refine HCL.out.mono ?_; rintro e w' ⟨rfl, hb'⟩; have HB' := hid hb'; clear hb')
       | fail)
      go_ret
      exact ⟨.hit kk x HX.out HQ.out.symm A.out, BW.out.trans (HB'.out.mono BW.out.size)⟩
  · have hltz : ¬ (kk : Int) < (n : Int) := by omega
    have hkn : kk = n := by omega
    go_wp2_with fail
    go_ret
    exact ⟨.miss fun x hx => A.out x (by rw [hkn, HN.out, List.take_length]; exact hx), BW.out⟩
end Go.Proofs.YtplodoindppleaaGreat
namespace Go.Proofs.YtplodoindppleaaGreat
set_option linter.unusedVariables false
open Go.RowKit
open Go.Lib (hid)
def nums (l : List Int) : List Value := l.map (Value.int .i64)
abbrev OwnI (w : World) (B : Nat) (v : Value) (l : List Int) : Prop := w.ownsRow B 3 1 v l.length (nums l)
theorem OwnI.nil (w : World) (B : Nat) : OwnI w B (.slice none 0 0) [] := World.ownsRow_nil _ _ _ _
theorem OwnI.grows {w W0 w1 : World} {B : Nat} {v v' : Value} {l : List Int} {x : Int} (hB : Below B w W0) (hsz : B ≤ W0.heap.size) (hlt : ∀ k, v.ownBlock = some k → B ≤ k)
 (hown' : w1.ownsRow B 3 1 v' (l.length + 1) (nums l ++ [.int .i64 x])) (hg : W0.grownBy w1 v.ownBlock) : OwnI w1 B v' (l ++ [x]) ∧ Below B w w1 :=
 ⟨by unfold OwnI nums; rw [List.map_append, List.length_append]; exact hown', hB.grown hg hsz hlt⟩
def SlI (w : World) (v : Value) (l : List Int) : Prop :=
 ∃ (b o cap : Nat) (a : Option Addr), v = .slice a l.length cap ∧ (0 < l.length → a = some ⟨b, o, none⟩) ∧ (∀ (j : Nat) x, l[j]? = some x → w.cell? ⟨b, o + j, none⟩ = some (.int .i64 x)) ∧ (0 < l.length → b < w.heap.size)
theorem OwnI.sl {w : World} {B : Nat} {v : Value} {l : List Int} (h : OwnI w B v l) : SlI w v l := by
 have hl := h.lt
 have hcl := fun g (hg : v.ownBlock = some g) => h.cells hg
 rcases h.2 with ⟨rfl, h0⟩ | ⟨g, cap, cur, rfl, hb, hg, hn, hm, hs, ht⟩
 · obtain rfl := List.length_eq_zero_iff.1 h0
   exact ⟨0, 0, 0, none, rfl, fun h => absurd h (by simp), fun j x hx => by simp at hx, fun h => absurd h (by simp)⟩
 · refine ⟨g, 0, cap, _, rfl, fun _ => rfl, fun j x hx => ?_, fun _ => (hl g rfl).2⟩
   have := hcl g rfl j (.int .i64 x) (by simp [nums, hx])
   rw [show (⟨g, 0, none⟩ : Addr).add j = ⟨g, 0 + j, none⟩ from by unfold Addr.add; split <;> simp_all] at this
   exact this
theorem SlI.on {w w' : World} {v : Value} {l : List Int} (h : SlI w v l) (hb : Below w.heap.size w w') : SlI w' v l := by
 obtain ⟨b, o, cap, a, rfl, ha, hc, hl⟩ := h
 refine ⟨b, o, cap, a, rfl, ha, fun j x hx => ?_, fun h0 => by have := hl h0; have := hb.size; omega⟩
 have h0 : 0 < l.length := by have := (List.getElem?_eq_some_iff.1 hx).1; omega
 rw [hb.cell (p := ⟨b, o + j, none⟩) (hl h0)]
 exact hc j x hx
end Go.Proofs.YtplodoindppleaaGreat
