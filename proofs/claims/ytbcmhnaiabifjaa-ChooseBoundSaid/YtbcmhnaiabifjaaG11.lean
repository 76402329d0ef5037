import Derived.Test.YtbcmhnaiabifjaaG03
import Derived.Test.YtbcmhnaiabifjaaRows
import Derived.WalkKit
import Derived.LoopTactic
import Derived.ProofKit
import Derived.Test.YtbcmhnaiabifjaaG08
import Derived.Test.YtbcmhnaiabifjaaG10
import Derived.Test.YtbcmhnaiabifjaaG04
import Derived.Test.YtbcmhnaiabifjaaG02
import Derived.Deep.QuietTactic
import Derived.BigQuiet
namespace Go.Proofs.Ytbcmhnaiabifjaa
open Go.RowKit
theorem rClassic_yes (n : Int) (w : World) (h : 3 ≤ n) (h' : n ≤ 9) : Calls Try.prog 17 #[.int .i64 n] w fun e w' => e = .returned (.int .i64 (n / 2 + 1)) ∧ w = w' := by
  go_enter Try.func17, Try.ntmps17
  go_wp2
  go_loop [4] (fun i => ∃ k : Nat, 2 * k ≤ n + 2 ∧ i = .int .i64 k) (fun i => (n + 2 - 2 * intOf i).toNat)
  case atStart => exact ⟨0, by omega, rfl⟩
  case round =>
    obtain ⟨k, hk, rfl⟩ := hrel
    by_cases hlt : 2 * (k : Int) ≤ n
    · go_wp2
      go_round
      case rel => exact ⟨k + 1, by omega, by go_num⟩
      case measure => simp [intOf]; omega
    · go_wp2
      go_ret
      exact ⟨ret_int (by omega), rfl⟩
theorem rFast_yes (n : Int) (w : World) (h : 3 ≤ n) (h' : n ≤ 9) : Calls Try.prog 16 #[.int .i64 n] w fun e w' => e = .returned (.int .i64 ((3 * n + 3) / 4)) ∧ w = w' := by
  go_enter Try.func16, Try.ntmps16
  go_wp2
  go_loop [4] (fun i => ∃ k : Nat, 4 * k ≤ 3 * n + 3 ∧ i = .int .i64 k) (fun i => (3 * n + 4 - 4 * intOf i).toNat)
  case atStart => exact ⟨0, by omega, rfl⟩
  case round =>
    obtain ⟨k, hk, rfl⟩ := hrel
    by_cases hlt : 4 * (k : Int) < 3 * n
    · go_wp2
      go_round
      case rel => exact ⟨k + 1, by omega, by go_num⟩
      case measure => simp [intOf]; omega
    · go_wp2
      go_ret
      exact ⟨ret_int (by omega), rfl⟩
theorem sClassic_yes (n : Int) (w : World) (h : 3 ≤ n) (h' : n ≤ 9) : Calls Try.prog 37 #[.int .i64 n] w fun e w' => e = .returned (.int .i64 (n / 2 + 1)) ∧ w = w' := by
  go_enter Try.func37, Try.ntmps37
  go_wp2
  go_ret
  exact ⟨rfl, rfl⟩
theorem sFast_yes (n : Int) (w : World) (h : 3 ≤ n) (h' : n ≤ 9) : Calls Try.prog 62 #[.int .i64 n] w fun e w' => e = .returned (.int .i64 ((3 * n + 3) / 4)) ∧ w = w' := by
  go_enter Try.func62, Try.ntmps62
  go_wp2
  go_ret
  exact ⟨rfl, rfl⟩
theorem sNeed_yes (n q : Int) (w : World) (h : 3 ≤ n) (h' : n ≤ 9) (h0 : 0 ≤ q) (h1 : q ≤ n) : Calls Try.prog 43 #[.int .i64 n, .int .i64 q] w fun e w' => e = .returned (.int .i64 ((3 * n + 3) / 4 - (n - q))) ∧ w = w' := by
  go_enter Try.func43, Try.ntmps43
  go_wp2_with (first | (go_at_call 62; refine (sFast_yes _ _ (by omega) (by omega)).mono ?_; rintro e w' ⟨rfl, rfl⟩) | go_in)
  go_ret
  exact ⟨rfl, rfl⟩
theorem sNeed_no (n q : Int) (w : World) (h : 3 ≤ n) (h' : n ≤ 9) (h0 : q < 0 ∨ n < q) : Calls Try.prog 43 #[.int .i64 n, .int .i64 q] w fun e w' => e = .returned (.int .i64 0) ∧ w = w' := by
  rcases h0 with h0 | h0
  · go_enter Try.func43, Try.ntmps43
    go_wp2
    go_ret
    exact ⟨rfl, rfl⟩
  · have h2 : ¬ q < 0 := by omega
    go_enter Try.func43, Try.ntmps43
    go_wp2
    go_ret
    exact ⟨rfl, rfl⟩
def rightB (n : Int) : Bool := decide (3 ≤ n ∧ n ≤ 9)
def clI (n : Int) : Int := if 3 ≤ n ∧ n ≤ 9 then n / 2 + 1 else 0
def faI (n : Int) : Int := if 3 ≤ n ∧ n ≤ 9 then (3 * n + 3) / 4 else 0
def neI (n q : Int) : Int := if 3 ≤ n ∧ n ≤ 9 ∧ 0 ≤ q ∧ q ≤ n then (3 * n + 3) / 4 - (n - q) else 0
theorem ret_bool' {a b : Bool} (h : a = b) : Ending.returned (.bool a) = .returned (.bool b) := by rw [h]
theorem sRight_any (n : Int) (w : World) : Calls Try.prog 36 #[.int .i64 n] w fun e w' => e = .returned (.bool (rightB n)) ∧ w = w' := by
  by_cases h0 : 3 ≤ n
  · by_cases h1 : n ≤ 9
    · go_enter Try.func36, Try.ntmps36
      go_wp2
      go_ret
      exact ⟨ret_bool' (by unfold rightB; symm; simp; omega), rfl⟩
    · go_enter Try.func36, Try.ntmps36
      go_wp2
      go_ret
      exact ⟨ret_bool' (by unfold rightB; symm; simp; omega), rfl⟩
  · go_enter Try.func36, Try.ntmps36
    go_wp2
    go_ret
    exact ⟨ret_bool' (by unfold rightB; symm; simp; omega), rfl⟩
theorem rRight_any (n : Int) (w : World) : Calls Try.prog 35 #[.int .i64 n] w fun e w' => e = .returned (.bool (rightB n)) ∧ w = w' := by
  by_cases h0 : 3 ≤ n
  · by_cases h1 : n ≤ 9
    · go_enter Try.func35, Try.ntmps35
      go_wp2
      go_ret
      exact ⟨ret_bool' (by unfold rightB; symm; simp; omega), rfl⟩
    · go_enter Try.func35, Try.ntmps35
      go_wp2
      go_ret
      exact ⟨ret_bool' (by unfold rightB; symm; simp; omega), rfl⟩
  · go_enter Try.func35, Try.ntmps35
    go_wp2
    go_ret
    exact ⟨ret_bool' (by unfold rightB; symm; simp; omega), rfl⟩
theorem right_no {n : Int} (h : ¬ (3 ≤ n ∧ n ≤ 9)) : rightB n = false := by unfold rightB; simpa using h
theorem sClassic_any (n : Int) (w : World) : Calls Try.prog 37 #[.int .i64 n] w fun e w' => e = .returned (.int .i64 (clI n)) ∧ w = w' := by
  by_cases h : 3 ≤ n ∧ n ≤ 9
  · refine (sClassic_yes n w h.1 h.2).mono ?_
    rintro e w' ⟨rfl, rfl⟩
    exact ⟨ret_int (by unfold clI; rw [if_pos h]), rfl⟩
  · have hr := right_no h
    go_enter Try.func37, Try.ntmps37
    go_wp2_with (go_at_call 36; refine (sRight_any _ _).mono ?_; rintro e w' ⟨rfl, rfl⟩)
    go_ret
    exact ⟨ret_int (by unfold clI; rw [if_neg h]), rfl⟩
theorem rClassic_any (n : Int) (w : World) : Calls Try.prog 17 #[.int .i64 n] w fun e w' => e = .returned (.int .i64 (clI n)) ∧ w = w' := by
  by_cases h : 3 ≤ n ∧ n ≤ 9
  · refine (rClassic_yes n w h.1 h.2).mono ?_
    rintro e w' ⟨rfl, rfl⟩
    exact ⟨ret_int (by unfold clI; rw [if_pos h]), rfl⟩
  · have hr := right_no h
    go_enter Try.func17, Try.ntmps17
    go_wp2_with (go_at_call 35; refine (rRight_any _ _).mono ?_; rintro e w' ⟨rfl, rfl⟩)
    go_ret
    exact ⟨ret_int (by unfold clI; rw [if_neg h]), rfl⟩
theorem rFast_any (n : Int) (w : World) : Calls Try.prog 16 #[.int .i64 n] w fun e w' => e = .returned (.int .i64 (faI n)) ∧ w = w' := by
  by_cases h : 3 ≤ n ∧ n ≤ 9
  · refine (rFast_yes n w h.1 h.2).mono ?_
    rintro e w' ⟨rfl, rfl⟩
    exact ⟨ret_int (by unfold faI; rw [if_pos h]), rfl⟩
  · have hr := right_no h
    go_enter Try.func16, Try.ntmps16
    go_wp2_with (go_at_call 35; refine (rRight_any _ _).mono ?_; rintro e w' ⟨rfl, rfl⟩)
    go_ret
    exact ⟨ret_int (by unfold faI; rw [if_neg h]), rfl⟩
theorem sNeed_any (n q : Int) (w : World) : Calls Try.prog 43 #[.int .i64 n, .int .i64 q] w fun e w' => e = .returned (.int .i64 (neI n q)) ∧ w = w' := by
  by_cases h : 3 ≤ n ∧ n ≤ 9
  · by_cases h0 : q < 0 ∨ n < q
    · refine (sNeed_no n q w h.1 h.2 h0).mono ?_
      rintro e w' ⟨rfl, rfl⟩
      exact ⟨ret_int (by unfold neI; rw [if_neg (by omega)]), rfl⟩
    · refine (sNeed_yes n q w h.1 h.2 (by omega) (by omega)).mono ?_
      rintro e w' ⟨rfl, rfl⟩
      exact ⟨ret_int (by unfold neI; rw [if_pos (by omega)]), rfl⟩
  · have hr := right_no h
    go_enter Try.func43, Try.ntmps43
    go_wp2_with (go_at_call 36; refine (sRight_any _ _).mono ?_; rintro e w' ⟨rfl, rfl⟩)
    go_ret
    exact ⟨ret_int (by unfold neI; rw [if_neg (by omega)]), rfl⟩
end Go.Proofs.Ytbcmhnaiabifjaa
namespace Go.Proofs.Ytbcmhnaiabifjaa
open Go.RowKit
end Go.Proofs.Ytbcmhnaiabifjaa
namespace Go.Proofs.Ytbcmhnaiabifjaa
set_option linter.unusedVariables false
open Go.RowKit
open Go.Lib (hid)
def isP (m : Ms) : Bool := decide (m.m.so = 4)
def isS (m : Ms) : Bool := decide (m.m.so = 7)
def mayB (m : Ms) : Bool := (decide (m.m.so = 4) || decide (m.m.so = 7)) && rightM m
def hdC (ls : List Ms) : C7 := ((ls.head?).map fun m => m.m.c).getD z7
def okM (n : Int) (c : C7) (l : List Ms) (m : Ms) : Bool := mayB m && (m.m.c.same c && (decide (m.m.fr < n) && l.all fun x => !decide (x.m.fr = m.m.fr)))
def okAll (n : Int) (ls : List Ms) : Bool := (List.range ls.length).all fun k => match ls[k]? with | some m => okM n (hdC ls) (ls.take k) m | none => true
theorem okAll_true {n : Int} {ls : List Ms} : okAll n ls = true ↔ ∀ k m, ls[k]? = some m → okM n (hdC ls) (ls.take k) m = true := by
  unfold okAll
  rw [List.all_eq_true]
  constructor
  · intro h k m hm
    have := h k (List.mem_range.2 (List.getElem?_eq_some_iff.1 hm).1)
    rw [hm] at this; exact this
  · intro h k hk
    rcases hm : ls[k]? with _ | m
    · rfl
    · exact h k m hm
theorem okAll_no {n : Int} {ls : List Ms} {k : Nat} {m : Ms} (hm : ls[k]? = some m) (h : okM n (hdC ls) (ls.take k) m = false) : okAll n ls = false := by
  rcases e : okAll n ls with _ | _
  · rfl
  · rw [okAll_true.1 e k m hm] at h; cases h
def ballB (ls : List Ms) : Bool := match ls.find? isP with | none => true | some f => ls.all fun m => !isP m || decide (m.m.bal = f.m.bal)
theorem ball_no {ls : List Ms} {f m : Ms} (hf : ls.find? isP = some f) (hm : m ∈ ls) (hp : isP m = true) (hb : m.m.bal ≠ f.m.bal) : ballB ls = false := by
  unfold ballB
  rw [hf]
  rw [List.all_eq_false]
  exact ⟨m, hm, by simp [hp, hb]⟩
theorem ball_yes {ls : List Ms} (h : ∀ f, ls.find? isP = some f → ∀ m ∈ ls, isP m = true → m.m.bal = f.m.bal) : ballB ls = true := by
  unfold ballB
  rcases hf : ls.find? isP with _ | f
  · rfl
  · show (ls.all _) = true
    rw [List.all_eq_true]
    intro m hm
    rcases hp : isP m with _ | _
    · rfl
    · simp [h f hf m hm hp]
def promB (n : Int) (ls : List Ms) : Bool := rightB n && (decide (clI n ≤ ls.length) && (okAll n ls && ballB ls))
def accS (b : Option Ms) (m : Ms) : Option Ms := match b with | none => if 0 < m.m.ab then some m else none | some x => if x.m.ab < m.m.ab then some m else some x
def accF (ls : List Ms) : Option Ms := ls.foldl accS none
theorem acc_next {ls : List Ms} {k : Nat} {m : Ms} (h : ls[k]? = some m) : accF (ls.take (k + 1)) = accS (accF (ls.take k)) m := by
  unfold accF
  rw [List.take_add_one, h, List.foldl_append]; rfl
def flagB (ls : List Ms) : Bool := ls.any fun m => m.m.fl
def sameF (x y : Ms) : Bool := decide (x.m.ft = y.m.ft) && sameB x.f y.f
def votesF (ls : List Ms) (y : Ms) : Nat := ls.countP fun x => sameF x y
def hasV (n : Int) (ls : List Ms) (m : Ms) : Bool := validB m.m.ft && decide (neI n ls.length ≤ (votesF ls m : Int))
def decF (n : Int) (ls : List Ms) : Option Ms := if flagB ls = true then none else ls.find? (hasV n ls)
def allRight (ls : List Ms) : Bool := ls.all rightM
def maxS (ls : List Ms) : Int := ls.foldl (fun t m => if t < m.m.s then m.m.s else t) 0
theorem maxS_next {ls : List Ms} {k : Nat} {m : Ms} (h : ls[k]? = some m) : maxS (ls.take (k + 1)) = if maxS (ls.take k) < m.m.s then m.m.s else maxS (ls.take k) := by
  unfold maxS
  rw [List.take_add_one, h, List.foldl_append]; rfl
def setsF (ls : List Ms) : List C7 := ls.flatMap Ms.v
theorem sets_next {ls : List Ms} {k : Nat} {m : Ms} (h : ls[k]? = some m) : setsF (ls.take (k + 1)) = setsF (ls.take k) ++ m.v := by
  unfold setsF
  rw [List.take_add_one, h, List.flatMap_append]; simp
theorem sets_len {n : Nat} : ∀ {ls : List Ms}, (∀ m ∈ ls, m.v.length ≤ n) → (setsF ls).length ≤ ls.length * n
  | [], _ => by simp [setsF]
  | m :: ls, h => by
    have h1 := sets_len (ls := ls) fun x hx => h x (List.mem_cons_of_mem _ hx)
    have h2 := h m List.mem_cons_self
    have : setsF (m :: ls) = m.v ++ setsF ls := by simp [setsF]
    rw [this, List.length_append, List.length_cons, Nat.add_mul]; omega
def freshE (ls : List Ms) : Int := if allRight ls = true then (if validB (maxS ls) = true then ofE2 (setsF ls) else 1) else 1
def freshT (ls : List Ms) : Int := if freshE ls = 0 then maxS ls else 0
def freshL (ls : List Ms) : List C7 := if freshE ls = 0 then ofL2 (setsF ls) else []
structure Cho where
  k : Int
  t : Int
  l : List C7
  e : Int
def choF (n : Int) (ls : List Ms) : Cho :=
  if promB n ls = true then
    match ls.find? isS with
    | some m => ⟨0, m.m.vt, m.v, 0⟩
    | none => match accF ls with
      | some m => ⟨1, m.m.xt, m.a, 0⟩
      | none => match decF n ls with
        | some m => ⟨2, m.m.ft, m.f, 0⟩
        | none => if freshE ls = 0 then ⟨3, freshT ls, freshL ls, 0⟩ else ⟨0, 0, [], freshE ls⟩
  else ⟨0, 0, [], 1⟩
theorem all_next {ls : List Ms} {p : Ms → Bool} {k : Nat} {m : Ms} (h : ls[k]? = some m) (hA : ∀ x ∈ ls.take k, p x = true) (hp : p m = true) : ∀ x ∈ ls.take (k + 1), p x = true := fun x hx => by
  rw [List.take_add_one, h] at hx
  rcases List.mem_append.1 hx with hx | hx
  · exact hA x hx
  · simp at hx; subst hx; exact hp
theorem find_hit {ls : List Ms} {p : Ms → Bool} {k : Nat} {m : Ms} (h : ls[k]? = some m) (hA : ∀ x ∈ ls.take k, p x = false) (hp : p m = true) : ls.find? p = some m := by
  have hk := (List.getElem?_eq_some_iff.1 h).1
  rw [← List.take_append_drop k ls, List.find?_append, List.find?_eq_none.2 (fun x hx => by rw [hA x hx]; decide)]
  have : ls.drop k = m :: ls.drop (k + 1) := by
    rw [List.drop_eq_getElem_cons hk]
    congr 1
    exact (List.getElem?_eq_some_iff.1 h).2
  rw [this]
  simp [hp]
theorem find_miss {ls : List Ms} {p : Ms → Bool} (hA : ∀ x ∈ ls, p x = false) : ls.find? p = none := List.find?_eq_none.2 fun x hx => by rw [hA x hx]; decide
theorem no_next {ls : List Ms} {p : Ms → Bool} {k : Nat} {m : Ms} (h : ls[k]? = some m) (hA : ∀ x ∈ ls.take k, p x = false) (hp : p m = false) : ∀ x ∈ ls.take (k + 1), p x = false := fun x hx => by
  rw [List.take_add_one, h] at hx
  rcases List.mem_append.1 hx with hx | hx
  · exact hA x hx
  · simp at hx; subst hx; exact hp
theorem votes_next {ls : List Ms} {y : Ms} {k : Nat} {m : Ms} (h : ls[k]? = some m) : votesF (ls.take (k + 1)) y = votesF (ls.take k) y + if sameF m y = true then 1 else 0 := by
  unfold votesF
  rw [List.take_add_one, h, List.countP_append]
  simp [List.countP_cons]
theorem right_own {m : Ms} (h : rightM m = true) : inB m.m.so 9 = true ∧ inB m.m.fr 9 = true ∧ inB m.m.tt 9 = true ∧ withinB m.m.bal 1048576 = true ∧ m.m.c.ok = true ∧ ownB m = true := by
  unfold rightM at h
  simp only [Bool.and_eq_true] at h
  exact h
theorem within_le {x b : Int} (h : withinB x b = true) : 0 ≤ x ∧ x ≤ b := by
  unfold withinB at h; simp at h; exact h
theorem prom_parts {m : Ms} (h : rightM m = true) (hs : m.m.so = 4) : m.m.vt = 0 ∧ setB m.v = true ∧ validB m.m.s = true ∧ (0 ≤ m.m.ab ∧ m.m.ab ≤ 1048576) ∧ (noneB m.m.xt m.a = true ∨ fullB m.m.xt m.a = true) ∧ (noneB m.m.ft m.f = true ∨ fullB m.m.ft m.f = true) := by
  have ho := (right_own h).2.2.2.2.2
  unfold ownB at ho
  rw [if_neg (by omega), if_neg (by omega), if_pos hs] at ho
  simp only [Bool.and_eq_true, decide_eq_true_eq, Bool.or_eq_true] at ho
  exact ⟨ho.1, ho.2.1, ho.2.2.1, within_le ho.2.2.2.1, ho.2.2.2.2.1, ho.2.2.2.2.2⟩
end Go.Proofs.Ytbcmhnaiabifjaa
namespace Go.Proofs.Ytbcmhnaiabifjaa
set_option linter.unusedVariables false
open Go.RowKit
open Go.Lib (hid)
open Go.Deep (blk_setCell_other nblk_setCell)
inductive IdxPost (p : Mg → Bool) (ws : List Mg) : Ending → Prop
  | miss : (∀ x ∈ ws, p x = false) → IdxPost p ws (.returned (.int .i64 (-1)))
  | hit (k : Nat) (x : Mg) : ws[k]? = some x → p x = true → (∀ y ∈ ws.take k, p y = false) → IdxPost p ws (.returned (.int .i64 k))
set_option maxHeartbeats 4000000 in
set_option maxRecDepth 100000 in
theorem cIndexFuncM {w : World} {v : Value} {ws : List Mg} (h : SlM w v ws) (hl : ws.length ≤ 1000000) (p : Mg → Bool) (g : Nat) (lb : Array Value) (eg : ∀ args w, (callFunc g args).run Try.prog w = .ok (.enter g args) w)
    (hp : ∀ (W : World) (x : Mg), Below w.heap.size w W → Calls Try.prog g (#[.agg x.arr] ++ lb) W fun e w' => e = .returned (.bool (p x)) ∧ Below W.heap.size W w') :
    Calls Try.prog 60 #[v, .func (.func g) #[] lb] w fun e w' => IdxPost p ws e ∧ Below w.heap.size w w' := by
  obtain ⟨b, o, cap, a, rfl, ha, hc, hb⟩ := h
  have HC := hid hc
  have HP := hid hp
  have HB := hid hb
  obtain ⟨n, hnl⟩ : ∃ n, n = ws.length := ⟨_, rfl⟩
  rw [← hnl] at hl ha hb ⊢
  have HN := hid hnl
  clear hc hp hnl
  go_enter Try.func60, Try.ntmps60
  go_wp2_with fail
  go_loopg [5, 8] n (fun gg _ s8 wr => ∃ kk : Nat, kk ≤ n ∧ n - kk ≤ gg ∧ s8 = .int .i64 kk ∧ Hid (Below w.heap.size w wr) ∧ Hid (∀ y ∈ ws.take kk, p y = false))
  case atStart => exact ⟨0, Nat.zero_le _, by omega, rfl, hid (Below.refl _ w), hid (by simp)⟩
  case round =>
    obtain ⟨kk, hkk, hg, rfl, BW, A⟩ := hrel
    by_cases hlt : kk < n
    · have hltz : (kk : Int) < (n : Int) := by omega
      obtain rfl := ha (by omega)
      obtain ⟨x, hx⟩ : ∃ x, ws[kk]? = some x := ⟨ws[kk]'(by rw [← HN.out]; exact hlt), List.getElem?_eq_getElem (by rw [← HN.out]; exact hlt)⟩
      have HR : Hid (wr.rangeAt b (o + kk * 20) x.list) := hid ((HC.out.on BW.out fun h0 => HB.out h0) kk x hx)
      have HX := hid hx
      have hcall := HP.out wr x BW.out
      clear hx
      obtain ⟨r, hr⟩ : ∃ r, r = p x := ⟨_, rfl⟩
      rw [← hr] at hcall
      have HQ := hid hr
      have HCL := hid hcall
      clear hr hcall
      rcases r with _ | _
      · go_wp2_with (first
          | ((with_reducible refine loadMl (x := ?lx1) (b := ?lb1) (o := ?lo1) x ?lg1 ?lp1 ?lxx1 ?lc1 ?_); (case lg1 => rfl); (case lp1 => rfl); (case lxx1 => rfl); (case lc1 => exact HR.out))
          | (go_at_fn g; refine HCL.out.mono ?_; rintro e w' ⟨rfl, hb'⟩; have HB' := hid hb'; clear hb')
          | fail)
        go_roundg (n - (kk + 1))
        case measure => omega
        case rel => exact ⟨kk + 1, by omega, by omega, by go_num, hid (BW.out.trans (HB'.out.mono BW.out.size)), hid fun y hy => by
          rw [List.take_add_one, HX.out] at hy
          rcases List.mem_append.1 hy with hy | hy
          · exact A.out y hy
          · simp at hy; subst hy; exact HQ.out.symm⟩
      · go_wp2_with (first
          | ((with_reducible refine loadMl (x := ?lx2) (b := ?lb2) (o := ?lo2) x ?lg2 ?lp2 ?lxx2 ?lc2 ?_); (case lg2 => rfl); (case lp2 => rfl); (case lxx2 => rfl); (case lc2 => exact HR.out))
          | (go_at_fn g; refine HCL.out.mono ?_; rintro e w' ⟨rfl, hb'⟩; have HB' := hid hb'; clear hb')
          | fail)
        go_ret
        exact ⟨.hit kk x HX.out HQ.out.symm A.out, BW.out.trans (HB'.out.mono BW.out.size)⟩
    · have hltz : ¬ (kk : Int) < (n : Int) := by omega
      have hkn : kk = n := by omega
      go_wp2_with fail
      go_ret
      exact ⟨.miss fun x hx => A.out x (by rw [hkn, HN.out, List.take_length]; exact hx), BW.out⟩
end Go.Proofs.Ytbcmhnaiabifjaa
namespace Go.Proofs.Ytbcmhnaiabifjaa
set_option linter.unusedVariables false
open Go.RowKit
open Go.Lib (hid)
def nums (l : List Int) : List Value := l.map (Value.int .i64)
abbrev OwnI (w : World) (B : Nat) (v : Value) (l : List Int) : Prop := w.ownsRow B 3 1 v l.length (nums l)
theorem OwnI.nil (w : World) (B : Nat) : OwnI w B (.slice none 0 0) [] := World.ownsRow_nil _ _ _ _
theorem OwnI.grows {w W0 w1 : World} {B : Nat} {v v' : Value} {l : List Int} {x : Int} (hB : Below B w W0) (hsz : B ≤ W0.heap.size) (hlt : ∀ k, v.ownBlock = some k → B ≤ k)
    (hown' : w1.ownsRow B 3 1 v' (l.length + 1) (nums l ++ [.int .i64 x])) (hg : W0.grownBy w1 v.ownBlock) : OwnI w1 B v' (l ++ [x]) ∧ Below B w w1 :=
  ⟨by unfold OwnI nums; rw [List.map_append, List.length_append]; exact hown', hB.grown hg hsz hlt⟩
def SlI (w : World) (v : Value) (l : List Int) : Prop :=
  ∃ (b o cap : Nat) (a : Option Addr), v = .slice a l.length cap ∧ (0 < l.length → a = some ⟨b, o, none⟩) ∧ (∀ (j : Nat) x, l[j]? = some x → w.cell? ⟨b, o + j, none⟩ = some (.int .i64 x)) ∧ (0 < l.length → b < w.heap.size)
theorem OwnI.sl {w : World} {B : Nat} {v : Value} {l : List Int} (h : OwnI w B v l) : SlI w v l := by
  have hl := h.lt
  have hcl := fun g (hg : v.ownBlock = some g) => h.cells hg
  rcases h.2 with ⟨rfl, h0⟩ | ⟨g, cap, cur, rfl, hb, hg, hn, hm, hs, ht⟩
  · obtain rfl := List.length_eq_zero_iff.1 h0
    exact ⟨0, 0, 0, none, rfl, fun h => absurd h (by simp), fun j x hx => by simp at hx, fun h => absurd h (by simp)⟩
  · refine ⟨g, 0, cap, _, rfl, fun _ => rfl, fun j x hx => ?_, fun _ => (hl g rfl).2⟩
    have := hcl g rfl j (.int .i64 x) (by simp [nums, hx])
    rw [show (⟨g, 0, none⟩ : Addr).add j = ⟨g, 0 + j, none⟩ from by unfold Addr.add; split <;> simp_all] at this
    exact this
theorem SlI.on {w w' : World} {v : Value} {l : List Int} (h : SlI w v l) (hb : Below w.heap.size w w') : SlI w' v l := by
  obtain ⟨b, o, cap, a, rfl, ha, hc, hl⟩ := h
  refine ⟨b, o, cap, a, rfl, ha, fun j x hx => ?_, fun h0 => by have := hl h0; have := hb.size; omega⟩
  have h0 : 0 < l.length := by have := (List.getElem?_eq_some_iff.1 hx).1; omega
  rw [hb.cell (p := ⟨b, o + j, none⟩) (hl h0)]
  exact hc j x hx
end Go.Proofs.Ytbcmhnaiabifjaa
namespace Go.Proofs.Ytbcmhnaiabifjaa
set_option linter.unusedVariables false
open Go.RowKit
open Go.Lib (hid)
theorem grownBy_refl (w : World) (row : Option Nat) : w.grownBy w row := ⟨rfl, rfl, rfl, Nat.le_refl _, fun _ _ _ => rfl⟩
theorem append_sl {w : World} {ops : Array Oper} {rest : List Oper} {o : Oper} {a : Act} {Q : Exit → Act → World → Prop} (hgd : o.guard = none) (s x : Operand)
    (ho : o.op = .call { callee := .builtin .append, args := #[s, x], argTypes := #[26, 26] })
    {B : Nat} {v vx : Value} {n : Nat} {xs ys : List C7} (hs : a.eval s = v) (hn : n = xs.length) (hown : w.ownsRow B 47 7 v n (flat xs)) (hx : a.eval x = vx) (hsl : Sl w vx ys) (hl : xs.length + ys.length ≤ 1000000) (hbase : B ≤ w.heap.size)
    (h : ∀ v' w', Own w' B v' (xs ++ ys) → w.grownBy w' v.ownBlock → wpList Try.prog ops Q rest (a.put o.dst v') w') : wpList Try.prog ops Q (o :: rest) a w := by
  obtain ⟨i0, hi, hz0, hz1, hz2⟩ := info_parts Try.infoC
  subst hn
  rcases hsl.src with ⟨rfl, rfl⟩ | ⟨ad, cap, rfl, hc, _⟩
  · refine wpList_append_own_none hgd s x 26 ho B 47 i0 7 Try.underlying26 hi v xs.length (flat xs) hs hown hx (h v w ?_ (grownBy_refl _ _))
    rw [List.append_nil]; exact hown
  · refine wpList_append_own w hgd s x 26 ho B 47 i0 _ 7 56 Try.underlying26 hi hz0 hz1 hz2 rfl (by decide) v xs.length (flat xs) hs hown ad ys.length cap (flat ys) hx (flat_len ys) hc (flat_one ys) ?_ ?_ hbase fun v' w' h1 h2 _ => h v' w' ?_ h2
    · unfold maxLen; omega
    · omega
    · unfold Own; rw [flat_append, List.length_append]; exact h1
end Go.Proofs.Ytbcmhnaiabifjaa
namespace Go.Proofs.Ytbcmhnaiabifjaa
set_option linter.unusedVariables false
open Go.RowKit
open Go.Lib (hid)
theorem roomZ (w : World) : RoomM (w.alloc zeroMc) w.heap.size := ⟨_, heap_alloc_new w _, rfl⟩
abbrev zeroVc : Obj := .cells #[.int .i64 0, .slice none 0 0] 28
def vcs (t : Int) (p : Sv) : List Value := [.int .i64 t, .slice p.a p.n p.c]
def varr (t : Int) (p : Sv) : Array Value := #[.int .i64 t, .slice p.a p.n p.c]
theorem varr_list (t : Int) (p : Sv) : (varr t p).toList = vcs t p := rfl
theorem infoVl (t : Int) (p : Sv) : (Try.prog.info? 28).map (·.size) = some (vcs t p).length := by show _ = some 2; kernel_rfl
theorem infoVl' (t : Int) (p : Sv) : (Try.prog.info? 28).map (·.size) = some (varr t p).size := by show _ = some 2; kernel_rfl
theorem varr_one (t : Int) (p : Sv) : (varr t p).all (·.oneCell') = true := by
  have h : ∀ u ∈ vcs t p, u.oneCell' = true := fun v hv => by
    unfold vcs at hv; simp at hv; rcases hv with h | h <;> subst h <;> rfl
  exact all_oneCell_toArray h
abbrev OV (w : World) (q : Nat) (t : Int) (p : Sv) : Prop := w.heap[q]? = some (.cells (varr t p) 28 (0, 0))
theorem OV.range {w : World} {q : Nat} {t : Int} {p : Sv} (h : OV w q t p) : w.rangeAt q 0 (vcs t p) := fun j v hv => by
  rw [Nat.zero_add, cellAt' h, ← Array.getElem?_toList]; exact hv
theorem OV.on {w w' : World} {q : Nat} {t : Int} {p : Sv} (h : OV w q t p) (hb : Below w.heap.size w w') : OV w' q t p := heapB h hb (Array.getElem?_eq_some_iff.1 h).1
def RoomV (w : World) (q : Nat) : Prop := ∃ C : Array Value, w.heap[q]? = some (.cells C 28 (0, 0)) ∧ C.size = 2
theorem OV.room {w : World} {q : Nat} {t : Int} {p : Sv} (h : OV w q t p) : RoomV w q := ⟨_, h, rfl⟩
theorem roomVZ (w : World) : RoomV (w.alloc zeroVc) w.heap.size := ⟨_, heap_alloc_new w _, rfl⟩
theorem RoomV.on {w w' : World} {q : Nat} (h : RoomV w q) (hb : Below w.heap.size w w') : RoomV w' q := by
  obtain ⟨C, h1, h2⟩ := h
  exact ⟨C, heapB h1 hb (Array.getElem?_eq_some_iff.1 h1).1, h2⟩
theorem RoomV.lt {w : World} {q : Nat} (h : RoomV w q) : q < w.heap.size := by
  obtain ⟨C, h1, h2⟩ := h
  exact (Array.getElem?_eq_some_iff.1 h1).1
theorem setsOV {w : World} {q : Nat} {C : Array Value} (t : Int) (p : Sv) (h : w.heap[q]? = some (.cells C 28 (0, 0))) (hs : C.size = 2) : OV (w.setCells q 0 (varr t p).toList) q t p := by
  obtain ⟨C', h1, h2, _, h4⟩ := setsAll (varr t p).toList 0 C w h
  have : C' = varr t p := by
    apply Array.ext_getElem?
    intro j
    by_cases hj : j < 2
    · have := h4 j (by rw [varr_list]; exact hj) (by omega)
      rw [Nat.zero_add] at this
      rw [this]; simp
    · rw [Array.getElem?_eq_none (by omega), Array.getElem?_eq_none (by show 2 ≤ j; omega)]
  subst this
  exact h1
theorem storeV {ops : Array Oper} {rest : List Oper} {op : Oper} {c : Act} {w : World} {Q : Exit → Act → World → Prop} {x y : Operand} {b : Nat} (t : Int) (p : Sv) (hgd : op.guard = none) (ho : op.op = .store 28 x y)
    (hx : c.eval x = .pointer (some ⟨b, 0, none⟩)) (hy : c.eval y = .agg (varr t p)) (hC : RoomV w b) (h : ∀ W, OV W b t p → Upd b w W → wpList Try.prog ops Q rest (c.put op.dst undef) W) : wpList Try.prog ops Q (op :: rest) c w := by
  obtain ⟨C, hC, hs⟩ := hC
  exact wpList_store_mid hgd 28 x y ho b 0 (varr t p) hx hy (thereOf hC (by rw [hs]; exact Nat.le_refl _)) (infoVl' t p) (varr_one t p) (h _ (setsOV t p hC hs) (setsUpd w b _))
theorem loadVl {ops : Array Oper} {rest : List Oper} {op : Oper} {c : Act} {w : World} {Q : Exit → Act → World → Prop} {x : Operand} {b o : Nat} (t : Int) (p : Sv) (hgd : op.guard = none) (ho : op.op = .load 28 x)
    (hx : c.eval x = .pointer (some ⟨b, o, none⟩)) (hc : w.rangeAt b o (vcs t p)) (h : wpList Try.prog ops Q rest (c.put op.dst (.agg (varr t p))) w) : wpList Try.prog ops Q (op :: rest) c w :=
  wpList_load_mid hgd 28 x ho b o hx (vcs t p) _ hc Try.underlying28 rfl (infoVl t p) h
theorem OM.vV {w : World} {q : Nat} {m : Mg} (h : OM w q m) : w.rangeAt q 11 (vcs m.vt m.vp) := fun i u hu => by
  rcases i with _ | _ | i
  · obtain rfl := Option.some.inj hu; exact h.cell (m := m) (j := 11) rfl
  · obtain rfl := Option.some.inj hu; exact h.cell (m := m) (j := 12) rfl
  · simp [vcs] at hu
theorem OM.aV {w : World} {q : Nat} {m : Mg} (h : OM w q m) : w.rangeAt q 16 (vcs m.xt m.xp) := fun i u hu => by
  rcases i with _ | _ | i
  · obtain rfl := Option.some.inj hu; exact h.cell (m := m) (j := 16) rfl
  · obtain rfl := Option.some.inj hu; exact h.cell (m := m) (j := 17) rfl
  · simp [vcs] at hu
theorem OM.fV {w : World} {q : Nat} {m : Mg} (h : OM w q m) : w.rangeAt q 18 (vcs m.ft m.fp) := fun i u hu => by
  rcases i with _ | _ | i
  · obtain rfl := Option.some.inj hu; exact h.cell (m := m) (j := 18) rfl
  · obtain rfl := Option.some.inj hu; exact h.cell (m := m) (j := 19) rfl
  · simp [vcs] at hu
theorem Upd.tch {q : Nat} {w W : World} (h : Upd q w W) : Tch (fun k => k = q) w W := ⟨(h.below 0 (Nat.zero_le _)).os, (h.below 0 (Nat.zero_le _)).tape, (h.below 0 (Nat.zero_le _)).output, Nat.le_of_eq h.size.symm, fun i hi hn => h.other i hi hn⟩
theorem RoomV.no {w : World} {q : Nat} (h : RoomV w q) : ∀ k, k = q → ∀ i, 6 ≤ i → w.cell? ⟨k, i, none⟩ = none := by
  rintro k rfl i hi
  obtain ⟨C, h1, h2⟩ := h
  rw [cellAt' h1, Array.getElem?_eq_none (by omega)]
theorem Sl.updV {w W : World} {q : Nat} {v : Value} {cs : List C7} (h : Sl w v cs) (hr : RoomV w q) (hu : Upd q w W) : Sl W v cs := h.tch hu.tch hr.no
inductive FoundP (f : Option Ms) (g : Ms → Int × Sv) : Ending → Prop
  | hit (m : Ms) : f = some m → FoundP f g (.returned (.tuple #[.agg (varr (g m).1 (g m).2), .bool true]))
  | miss : f = none → FoundP f g (.returned (.tuple #[.agg (varr 0 zS), .bool false]))
end Go.Proofs.Ytbcmhnaiabifjaa
