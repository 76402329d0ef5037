import Derived.Test.YtogoibigabpkhaaGreatG04
import Derived.Deep.QuietTactic
import Derived.BigQuiet
import Derived.Test.YtogoibigabpkhaaGreatG07
import Derived.Test.YtogoibigabpkhaaGreatRows
import Derived.WalkKit
import Derived.LoopTactic
import Derived.ProofKit
import Derived.Test.YtogoibigabpkhaaGreatG09
import Derived.Laws.Cover1
import Derived.Test.YtogoibigabpkhaaGreatG08
/- The names of commands: the program's Ids, the document's, and whether two lists of numbers are one. -/
namespace Go.Proofs.YtogoibigabpkhaaGreat
set_option linter.unusedVariables false
open Go.RowKit
open Go.Lib (hid)

def nums (l : List Int) : List Value := l.map (Value.int .i64)
/-- A slice that the call itself made holds the numbers. -/
abbrev OwnI (w : World) (B : Nat) (v : Value) (l : List Int) : Prop := w.ownsRow B 3 1 v l.length (nums l)
theorem OwnI.nil (w : World) (B : Nat) : OwnI w B (.slice none 0 0) [] := World.ownsRow_nil _ _ _ _
theorem OwnI.grows {w W0 w1 : World} {B : Nat} {v v' : Value} {l : List Int} {x : Int} (hB : Below B w W0) (hsz : B ≤ W0.heap.size) (hlt : ∀ k, v.ownBlock = some k → B ≤ k)
    (hown' : w1.ownsRow B 3 1 v' (l.length + 1) (nums l ++ [.int .i64 x])) (hg : W0.grownBy w1 v.ownBlock) : OwnI w1 B v' (l ++ [x]) ∧ Below B w w1 :=
  ⟨by unfold OwnI nums; rw [List.map_append, List.length_append]; exact hown', hB.grown hg hsz hlt⟩
theorem ids_next {cs : List C7} {k : Nat} {c : C7} (hc : cs[k]? = some c) : idsL (cs.take (k + 1)) = idsL (cs.take k) ++ [c.i] := by
  unfold idsL; rw [take_snoc hc, List.map_append]; rfl
theorem ids_len (cs : List C7) (k : Nat) : (idsL (cs.take k)).length ≤ k := by unfold idsL; simp; omega

set_option maxHeartbeats 600000 in
set_option maxRecDepth 100000 in
theorem cIds {v : Value} {cs : List C7} {w : World} (h : Sl w v cs) (hl : cs.length ≤ 100000) : Calls Tryz.prog 57 #[v] w fun e w' => ∃ r, e = .returned r ∧ OwnI w' w.heap.size r (idsL cs) ∧ Below w.heap.size w w' := by
  obtain ⟨b, o, cap, a, rfl, hn, ha, hc, hb⟩ := h
  obtain ⟨i0, hi, hz0, hz1, hz2⟩ := info_parts Tryz.infoI
  go_enter Tryz.func57, Tryz.ntmps57
  go_wp2
  go_loopw [3, 8] (fun u i wr => ∃ k : Nat, k ≤ cs.length ∧ i = .int .i64 k ∧ OwnI wr w.heap.size u (idsL (cs.take k)) ∧ Below w.heap.size w wr) (fun _ i _ => cs.length - (intOf i).toNat)
  case atStart => exact ⟨0, Nat.zero_le _, rfl, OwnI.nil _ _, Below.refl _ _⟩
  case round =>
    obtain ⟨k, hk, rfl, hown, hB⟩ := hrel
    have hsz := hB.size
    have hil := ids_len cs k
    by_cases hlt : k < cs.length
    · obtain rfl := ha (by omega)
      obtain ⟨c, hcc⟩ : ∃ c, cs[k]? = some c := ⟨cs[k], List.getElem?_eq_getElem hlt⟩
      have hbw := hb (by omega)
      obtain ⟨c0, c1, c2, c3, c4, c5, c6⟩ := (hc.on hB hbw).at hcc
      have HC := hid hcc
      have HB := hid hB
      have HO := hid hown
      clear hcc hB
      go_wp2_with (at_builtin; refine wpList_append_own _ rfl _ _ 50 rfl w.heap.size 3 i0 _ 1 8 Tryz.underlying50 hi hz0 hz1 hz2 rfl (by decide) _ _ _ rfl ((hown.alloc _).alloc _) ⟨wr.heap.size + 1, 0, none⟩ 1 1 [.int .i64 c.i] rfl rfl ?c1 ?c2 ?c3 ?c4 ?c5 ?_)
      case c2 => first | rfl | trivial | (intro u hu; simp at hu; subst hu; rfl)
      case c3 => unfold maxLen; omega
      case c4 => omega
      case c5 => first | omega | (simp; omega)
      intro v' w1 hown' hgrow _
      have R := OwnI.grows ((HB.out.alloc hsz _).alloc (by simp; omega) _) (by simp; omega) (fun k hk => (HO.out.lt k hk).1) hown' hgrow
      rw [← ids_next HC.out] at R
      clear hown' hgrow hown
      go_wp2
      go_roundw
      case rel => exact ⟨k + 1, by omega, by go_num, R.1, R.2⟩
      case measure => simp [intOf]; omega
    · rw [List.take_of_length_le (by omega)] at hown
      have HR := hid hown
      clear hown
      go_wp2
      go_ret
      exact ⟨_, rfl, HR.out, hB⟩

/-- Numbers behind an address. -/
def SlI (w : World) (v : Value) (l : List Int) : Prop :=
  ∃ (b o cap : Nat) (a : Option Addr), v = .slice a l.length cap ∧ (0 < l.length → a = some ⟨b, o, none⟩) ∧ (∀ (j : Nat) x, l[j]? = some x → w.cell? ⟨b, o + j, none⟩ = some (.int .i64 x)) ∧ (0 < l.length → b < w.heap.size)
theorem OwnI.sl {w : World} {B : Nat} {v : Value} {l : List Int} (h : OwnI w B v l) : SlI w v l := by
  have hl := h.lt
  have hcl := fun g (hg : v.ownBlock = some g) => h.cells hg
  rcases h.2 with ⟨rfl, h0⟩ | ⟨g, cap, cur, rfl, hb, hg, hn, hm, hs, ht⟩
  · obtain rfl := List.length_eq_zero_iff.1 h0
    exact ⟨0, 0, 0, none, rfl, fun h => absurd h (by simp), fun j x hx => by simp at hx, fun h => absurd h (by simp)⟩
  · refine ⟨g, 0, cap, _, rfl, fun _ => rfl, fun j x hx => ?_, fun _ => (hl g rfl).2⟩
    have := hcl g rfl j (.int .i64 x) (by simp [nums, hx])
    rw [show (⟨g, 0, none⟩ : Addr).add j = ⟨g, 0 + j, none⟩ from by unfold Addr.add; split <;> simp_all] at this
    exact this
theorem SlI.on {w w' : World} {v : Value} {l : List Int} (h : SlI w v l) (hb : Below w.heap.size w w') : SlI w' v l := by
  obtain ⟨b, o, cap, a, rfl, ha, hc, hl⟩ := h
  refine ⟨b, o, cap, a, rfl, ha, fun j x hx => ?_, fun h0 => by have := hl h0; have := hb.size; omega⟩
  have h0 : 0 < l.length := by have := (List.getElem?_eq_some_iff.1 hx).1; omega
  rw [hb.cell (p := ⟨b, o + j, none⟩) (hl h0)]
  exact hc j x hx

set_option maxHeartbeats 600000 in
set_option maxRecDepth 100000 in
theorem rSameIds {v v' : Value} {l : List Int} {w : World} (h : SlI w v l) (h' : SlI w v' l) (hl : l.length ≤ 100000) : Calls Tryz.prog 37 #[v, v'] w fun e w' => e = .returned (.bool true) ∧ Below w.heap.size w w' := by
  obtain ⟨b, o, cap, a, rfl, ha, hc, hb⟩ := h
  obtain ⟨b', o', cap', a', rfl, ha', hc', hb'⟩ := h'
  go_enter Tryz.func37, Tryz.ntmps37
  go_wp2
  go_loopw [5] (fun i wr => ∃ k : Nat, k ≤ l.length ∧ i = .int .i64 k ∧ Below w.heap.size w wr) (fun i _ => l.length - (intOf i).toNat)
  case atStart => exact ⟨0, Nat.zero_le _, rfl, Below.refl _ _⟩
  case round =>
    obtain ⟨k, hk, rfl, hB⟩ := hrel
    by_cases hlt : k < l.length
    · obtain rfl := ha (by omega)
      obtain rfl := ha' (by omega)
      obtain ⟨x, hx⟩ : ∃ x, l[k]? = some x := ⟨l[k], List.getElem?_eq_getElem hlt⟩
      have hbw := hb (by omega)
      have hbw' := hb' (by omega)
      have c0 := (hB.cell (p := ⟨b, o + k, none⟩) hbw).trans (hc k x hx)
      have d0 := (hB.cell (p := ⟨b', o' + k, none⟩) hbw').trans (hc' k x hx)
      clear hx
      have HB := hid hB
      clear hB
      go_wp2
      go_quiet (fail)
      go_wp2
      go_roundw
      case rel => exact ⟨k + 1, by omega, by go_num, Below.drewN' HB.out _⟩
      case measure => simp [intOf]; omega
    · go_wp2
      go_ret
      exact ⟨rfl, hB⟩
end Go.Proofs.YtogoibigabpkhaaGreat
/- The contracts of the document's own answers for quorums, and of the live question: what each returns, whatever its arguments; the world is left alone. -/
namespace Go.Proofs.YtogoibigabpkhaaGreat
open Go.RowKit

/-! Whatever the arguments: one function for the program's answer and the document's. -/
def rightB (n : Int) : Bool := decide (3 ≤ n ∧ n ≤ 9)
def clI (n : Int) : Int := if 3 ≤ n ∧ n ≤ 9 then n / 2 + 1 else 0
def faI (n : Int) : Int := if 3 ≤ n ∧ n ≤ 9 then (3 * n + 3) / 4 else 0
def neI (n q : Int) : Int := if 3 ≤ n ∧ n ≤ 9 ∧ 0 ≤ q ∧ q ≤ n then (3 * n + 3) / 4 - (n - q) else 0
theorem ret_bool' {a b : Bool} (h : a = b) : Ending.returned (.bool a) = .returned (.bool b) := by rw [h]

theorem right_yes {n : Int} (h : 3 ≤ n ∧ n ≤ 9) : rightB n = true := by unfold rightB; simpa using h
theorem right_no {n : Int} (h : ¬ (3 ≤ n ∧ n ≤ 9)) : rightB n = false := by unfold rightB; simpa using h

end Go.Proofs.YtogoibigabpkhaaGreat
/- The contracts of Make, Next, Valid, Count, Node, Owner and Above, the program's and the document's: both return one and the same function of the arguments, whatever these are; the world is left alone. -/
namespace Go.Proofs.YtogoibigabpkhaaGreat
open Go.RowKit

def countI (t : Int) : Int := if 16 ≤ t ∧ t < 1048576 ∧ t % 16 ≤ 8 then t / 16 else 0
def nodeI (t : Int) : Int := if 16 ≤ t ∧ t < 1048576 ∧ t % 16 ≤ 8 then t % 16 else -1
def mkV (c n : Int) : Int := if n < 0 ∨ 8 < n ∨ c < 1 ∨ 65535 < c then 0 else 16 * c + n
def mkE (c n : Int) : Int := if n < 0 ∨ 8 < n ∨ c < 1 then 1 else if 65535 < c then 8 else 0
theorem sMake_any (c n : Int) (w : World) : Calls Tryz.prog 53 #[.int .i64 c, .int .i64 n] w fun e w' => e = .returned (two (mkV c n) (mkE c n)) ∧ w = w' := by
  by_cases h0 : n < 0
  · go_enter Tryz.func53, Tryz.ntmps53
    go_wp2
    go_ret2
    exact ⟨ret_two (by unfold mkV; rw [if_pos (by omega)]) (by unfold mkE; rw [if_pos (by omega)]), rfl⟩
  by_cases h1 : 9 ≤ n
  · go_enter Tryz.func53, Tryz.ntmps53
    go_wp2
    go_ret2
    exact ⟨ret_two (by unfold mkV; rw [if_pos (by omega)]) (by unfold mkE; rw [if_pos (by omega)]), rfl⟩
  by_cases h2 : c < 1
  · go_enter Tryz.func53, Tryz.ntmps53
    go_wp2
    go_ret2
    exact ⟨ret_two (by unfold mkV; rw [if_pos (by omega)]) (by unfold mkE; rw [if_pos (by omega)]), rfl⟩
  by_cases h3 : 65536 ≤ c
  · go_enter Tryz.func53, Tryz.ntmps53
    go_wp2
    go_ret2
    exact ⟨ret_two (by unfold mkV; rw [if_pos (by omega)]) (by unfold mkE; rw [if_neg (by omega), if_pos (by omega)]), rfl⟩
  · go_enter Tryz.func53, Tryz.ntmps53
    go_wp2
    go_ret2
    exact ⟨ret_two (by unfold mkV; rw [if_neg (by omega)]) (by unfold mkE; rw [if_neg (by omega), if_neg (by omega)]), rfl⟩

theorem rMake_any (c n : Int) (w : World) : Calls Tryz.prog 74 #[.int .i64 c, .int .i64 n] w fun e w' => e = .returned (two (mkV c n) (mkE c n)) ∧ w = w' := by
  by_cases h0 : n < 0
  · go_enter Tryz.func74, Tryz.ntmps74
    go_wp2
    go_ret2
    exact ⟨ret_two (by unfold mkV; rw [if_pos (by omega)]) (by unfold mkE; rw [if_pos (by omega)]), rfl⟩
  by_cases h1 : 8 < n
  · go_enter Tryz.func74, Tryz.ntmps74
    go_wp2
    go_ret2
    exact ⟨ret_two (by unfold mkV; rw [if_pos (by omega)]) (by unfold mkE; rw [if_pos (by omega)]), rfl⟩
  by_cases h2 : c < 1
  · go_enter Tryz.func74, Tryz.ntmps74
    go_wp2
    go_ret2
    exact ⟨ret_two (by unfold mkV; rw [if_pos (by omega)]) (by unfold mkE; rw [if_pos (by omega)]), rfl⟩
  by_cases h3 : 65535 < c
  · go_enter Tryz.func74, Tryz.ntmps74
    go_wp2
    go_ret2
    exact ⟨ret_two (by unfold mkV; rw [if_pos (by omega)]) (by unfold mkE; rw [if_neg (by omega), if_pos (by omega)]), rfl⟩
  · go_enter Tryz.func74, Tryz.ntmps74
    go_wp2
    go_ret2
    exact ⟨ret_two (by unfold mkV; rw [if_neg (by omega)]) (by unfold mkE; rw [if_neg (by omega), if_neg (by omega)]), rfl⟩

theorem sValid_any (t : Int) (w : World) : Calls Tryz.prog 87 #[.int .i64 t] w fun e w' => e = .returned (.bool (validB t)) ∧ w = w' := by
  by_cases h0 : 16 ≤ t
  · by_cases h1 : t < 1048576
    · by_cases h2 : t % 16 < 9
      · go_enter Tryz.func87, Tryz.ntmps87
        go_wp2
        go_ret
        exact ⟨ret_bool (by unfold validB; symm; simp; omega), rfl⟩
      · go_enter Tryz.func87, Tryz.ntmps87
        go_wp2
        go_ret
        exact ⟨ret_bool (by unfold validB; symm; simp; omega), rfl⟩
    · go_enter Tryz.func87, Tryz.ntmps87
      go_wp2
      go_ret
      exact ⟨ret_bool (by unfold validB; symm; simp; omega), rfl⟩
  · go_enter Tryz.func87, Tryz.ntmps87
    go_wp2
    go_ret
    exact ⟨ret_bool (by unfold validB; symm; simp; omega), rfl⟩

theorem rValid_any (t : Int) (w : World) : Calls Tryz.prog 70 #[.int .i64 t] w fun e w' => e = .returned (.bool (validB t)) ∧ w = w' := by
  by_cases h0 : 16 ≤ t
  · by_cases h1 : t < 1048576
    · by_cases h2 : t % 16 ≤ 8
      · go_enter Tryz.func70, Tryz.ntmps70
        go_wp2
        go_ret
        exact ⟨ret_bool (by unfold validB; symm; simp; omega), rfl⟩
      · go_enter Tryz.func70, Tryz.ntmps70
        go_wp2
        go_ret
        exact ⟨ret_bool (by unfold validB; symm; simp; omega), rfl⟩
    · go_enter Tryz.func70, Tryz.ntmps70
      go_wp2
      go_ret
      exact ⟨ret_bool (by unfold validB; symm; simp; omega), rfl⟩
  · go_enter Tryz.func70, Tryz.ntmps70
    go_wp2
    go_ret
    exact ⟨ret_bool (by unfold validB; symm; simp; omega), rfl⟩

theorem valid_true {t : Int} : validB t = true ↔ 16 ≤ t ∧ t < 1048576 ∧ t % 16 ≤ 8 := by unfold validB; simp
theorem valid_false {t : Int} : validB t = false ↔ ¬ (16 ≤ t ∧ t < 1048576 ∧ t % 16 ≤ 8) := by unfold validB; simp

theorem sCount_any (t : Int) (w : World) : Calls Tryz.prog 52 #[.int .i64 t] w fun e w' => e = .returned (.int .i64 (countI t)) ∧ w = w' := by
  rcases hv : validB t with _ | _
  · go_enter Tryz.func52, Tryz.ntmps52
    go_wp2_with (go_at_call 87; refine (sValid_any _ _).mono ?_; rintro e w' ⟨rfl, rfl⟩)
    go_ret
    exact ⟨ret_int (by rw [valid_false] at hv; unfold countI; rw [if_neg hv]), rfl⟩
  · have ht := valid_true.mp hv
    obtain ⟨h1, h2, h3⟩ := ht
    go_enter Tryz.func52, Tryz.ntmps52
    go_wp2_with (go_at_call 87; refine (sValid_any _ _).mono ?_; rintro e w' ⟨rfl, rfl⟩)
    go_ret
    exact ⟨ret_int (by unfold countI; rw [if_pos ⟨h1, h2, h3⟩]), rfl⟩

theorem rCount_any (t : Int) (w : World) : Calls Tryz.prog 73 #[.int .i64 t] w fun e w' => e = .returned (.int .i64 (countI t)) ∧ w = w' := by
  rcases hv : validB t with _ | _
  · go_enter Tryz.func73, Tryz.ntmps73
    go_wp2_with (go_at_call 70; refine (rValid_any _ _).mono ?_; rintro e w' ⟨rfl, rfl⟩)
    go_ret
    exact ⟨ret_int (by rw [valid_false] at hv; unfold countI; rw [if_neg hv]), rfl⟩
  · have ht := valid_true.mp hv
    obtain ⟨h1, h2, h3⟩ := ht
    go_enter Tryz.func73, Tryz.ntmps73
    go_wp2_with (go_at_call 70; refine (rValid_any _ _).mono ?_; rintro e w' ⟨rfl, rfl⟩)
    go_ret
    exact ⟨ret_int (by unfold countI; rw [if_pos ⟨h1, h2, h3⟩]), rfl⟩

theorem count_bd (t : Int) : 0 ≤ countI t ∧ countI t ≤ 65535 := by unfold countI; split <;> omega

/-! Owner and Above. -/
def ownerI (b n : Int) : Int := if 3 ≤ n ∧ n ≤ 9 ∧ 2 ≤ b ∧ b ≤ 1048576 then (b - 2) % n else -1
def leastI (b : Int) : Int := if b + 1 < 2 then 2 else b + 1
def ownI (b p n : Int) : Int := leastI b + (p - (leastI b - 2) % n + n) % n
def abV (b p n : Int) : Int := if n < 3 ∨ 9 < n ∨ p < 0 ∨ n ≤ p ∨ 1048576 ≤ b ∨ 1048576 < ownI b p n then 0 else ownI b p n
def abE (b p n : Int) : Int := if n < 3 ∨ 9 < n ∨ p < 0 ∨ n ≤ p then 1 else if 1048576 ≤ b ∨ 1048576 < ownI b p n then 8 else 0

theorem least_bd (b : Int) (h : b < 1048576) : 2 ≤ leastI b ∧ leastI b ≤ 1048576 ∧ b < leastI b := by unfold leastI; split <;> omega

theorem mod_bd (x n : Int) (h : 3 ≤ n) : 0 ≤ x % n ∧ x % n < n := ⟨Int.emod_nonneg _ (by omega), Int.emod_lt_of_pos _ (by omega)⟩

theorem own_bd (b p n : Int) (h : 3 ≤ n) : leastI b ≤ ownI b p n ∧ ownI b p n < leastI b + n := by
  have := mod_bd (p - (leastI b - 2) % n + n) n h
  unfold ownI; omega

theorem n_cases (n : Int) (h : 3 ≤ n) (h' : n ≤ 9) : n = 3 ∨ n = 4 ∨ n = 5 ∨ n = 6 ∨ n = 7 ∨ n = 8 ∨ n = 9 := by omega

/-- Between the least ballot and the replica's own none is its own. -/
theorem own_first (b p n x : Int) (h : 3 ≤ n) (h' : n ≤ 9) (_hp : 0 ≤ p) (_hq : p < n) (h1 : leastI b ≤ x) (h2 : x < ownI b p n) : (x - 2) % n ≠ p := by
  unfold ownI at h2
  generalize leastI b = l at *
  rcases n_cases n h h' with rfl | rfl | rfl | rfl | rfl | rfl | rfl <;> omega

theorem own_own (b p n : Int) (h : 3 ≤ n) (h' : n ≤ 9) (hp : 0 ≤ p) (hq : p < n) : (ownI b p n - 2) % n = p := by
  unfold ownI
  generalize leastI b = l at *
  rcases n_cases n h h' with rfl | rfl | rfl | rfl | rfl | rfl | rfl <;> omega
end Go.Proofs.YtogoibigabpkhaaGreat
/- Entries by value, the program's own: a timestamp reserved. -/
namespace Go.Proofs.YtogoibigabpkhaaGreat
set_option linter.unusedVariables false
open Go.RowKit
open Go.Lib (hid)

theorem valid_iff {t : Int} : validB t = true ↔ 16 ≤ t ∧ t < 1048576 ∧ t % 16 ≤ 8 := by unfold validB; simp
theorem times_cases {lo hi : Int} (h : timesB lo hi = true) : (lo = 0 ∧ hi = 0) ∨ (validB lo = true ∧ validB hi = true ∧ lo ≤ hi) := by
  unfold timesB at h
  rw [Bool.or_eq_true, Bool.and_eq_true, Bool.and_eq_true, Bool.and_eq_true] at h
  rcases h with ⟨a, b⟩ | ⟨⟨a, b⟩, c⟩
  · exact .inl ⟨of_decide_eq_true a, of_decide_eq_true b⟩
  · exact .inr ⟨a, b, of_decide_eq_true c⟩
end Go.Proofs.YtogoibigabpkhaaGreat
/- Whether two lists of commands are the same: the library's Equal, the program's Same. -/
namespace Go.Proofs.YtogoibigabpkhaaGreat
set_option linter.unusedVariables false
open Go.RowKit
open Go.Lib (hid)

end Go.Proofs.YtogoibigabpkhaaGreat
/- Entries, the program's own small tests: Valid, isBallot, isReserved, isNone, isValue, hasValue, sameValue. -/


namespace Go.Proofs.YtogoibigabpkhaaGreat
set_option linter.unusedVariables false
open Go.RowKit
open Go.Lib (hid)

theorem cValid (t : Int) (w : World) : Calls Tryz.prog 87 #[.int .i64 t] w fun e w' => e = .returned (.bool (validB t)) ∧ w = w' := by
  by_cases h0 : 16 ≤ t
  · by_cases h1 : t < 1048576
    · by_cases h2 : t % 16 < 9
      · go_enter Tryz.func87, Tryz.ntmps87
        go_wp2
        go_ret
        exact ⟨ret_bool (by unfold validB; symm; simp; omega), rfl⟩
      · go_enter Tryz.func87, Tryz.ntmps87
        go_wp2
        go_ret
        exact ⟨ret_bool (by unfold validB; symm; simp; omega), rfl⟩
    · go_enter Tryz.func87, Tryz.ntmps87
      go_wp2
      go_ret
      exact ⟨ret_bool (by unfold validB; symm; simp; omega), rfl⟩
  · go_enter Tryz.func87, Tryz.ntmps87
    go_wp2
    go_ret
    exact ⟨ret_bool (by unfold validB; symm; simp; omega), rfl⟩
theorem cBallot (t : Int) (w : World) : Calls Tryz.prog 95 #[.int .i64 t] w fun e w' => e = .returned (.bool (withinB t 1048576)) ∧ w = w' := by
  by_cases h0 : 0 ≤ t
  · go_enter Tryz.func95, Tryz.ntmps95
    go_wp2
    go_ret
    exact ⟨ret_bool (by unfold withinB; symm; simp; omega), rfl⟩
  · go_enter Tryz.func95, Tryz.ntmps95
    go_wp2
    go_ret
    exact ⟨ret_bool (by unfold withinB; symm; simp; omega), rfl⟩
set_option maxHeartbeats 600000 in
set_option maxRecDepth 100000 in
theorem cNone {a : Option Addr} {n cap : Nat} {l : List C7} {w : World} (t : Int) (hn : n = l.length) : Calls Tryz.prog 98 #[.agg #[.int .i64 t, .slice a n cap]] w fun e w' => e = .returned (.bool (noneB t l)) ∧ Below w.heap.size w w' := by
  have HN := hid (show noneB t l = (decide (t = 0) && decide (n = 0)) by unfold noneB; rw [hn])
  clear hn
  by_cases ht : t = 0
  · subst ht
    go_enter Tryz.func98, Tryz.ntmps98
    go_wp2
    go_ret
    exact ⟨ret_bool (by rw [HN.out, Bool.eq_iff_iff]; simp), (Below.refl _ w).alloc (Nat.le_refl _) _⟩
  · go_enter Tryz.func98, Tryz.ntmps98
    go_wp2
    go_ret
    exact ⟨ret_bool (by rw [HN.out]; simp [ht]), (Below.refl _ w).alloc (Nat.le_refl _) _⟩

set_option maxHeartbeats 1600000 in
set_option maxRecDepth 100000 in
theorem cTimes (lo hi : Int) (w : World) : Calls Tryz.prog 96 #[.int .i64 lo, .int .i64 hi] w fun e w' => e = .returned (.bool (timesB lo hi)) ∧ w = w' := by
  by_cases h1 : lo = 0
  · subst h1
    by_cases h2 : hi = 0
    · subst h2
      go_enter Tryz.func96, Tryz.ntmps96
      go_wp2_with fail
      go_ret
      exact ⟨ret_bool rfl, rfl⟩
    · have hV : ∀ W, Calls Tryz.prog 87 #[.int .i64 0] W fun e w' => e = .returned (.bool false) ∧ W = w' := fun W => cValid 0 W
      have HE := hid (show timesB 0 hi = false by unfold timesB; rw [show validB 0 = false from rfl]; simp [h2])
      go_enter Tryz.func96, Tryz.ntmps96
      go_wp2_with (go_at_call 87; refine (hV _).mono ?_; rintro x w' ⟨rfl, rfl⟩)
      go_ret
      exact ⟨ret_bool (by rw [HE.out]; simp [h2]), rfl⟩
  · have hV1 := fun W => cValid lo W
    have hV2 := fun W => cValid hi W
    rcases h3 : validB lo with _ | _
    · rw [h3] at hV1
      have HE := hid (show timesB lo hi = false by unfold timesB; rw [h3]; simp [h1])
      clear h3
      go_enter Tryz.func96, Tryz.ntmps96
      go_wp2_with (go_at_call 87; refine (hV1 _).mono ?_; rintro x w' ⟨rfl, rfl⟩)
      go_ret
      exact ⟨ret_bool HE.out.symm, rfl⟩
    · rw [h3] at hV1
      rcases h4 : validB hi with _ | _
      · rw [h4] at hV2
        have HE := hid (show timesB lo hi = false by unfold timesB; rw [h4]; simp [h1])
        clear h3 h4
        go_enter Tryz.func96, Tryz.ntmps96
        go_wp2_with fail
        go_at_call 87
        refine (hV1 _).mono ?_
        rintro x w' ⟨rfl, rfl⟩
        go_wp2_with fail
        go_at_call 87
        refine (hV2 _).mono ?_
        rintro x w' ⟨rfl, rfl⟩
        go_wp2_with fail
        go_ret
        exact ⟨ret_bool HE.out.symm, rfl⟩
      · rw [h4] at hV2
        have HE := hid (show timesB lo hi = decide (lo ≤ hi) by unfold timesB; rw [h3, h4]; simp [h1])
        clear h3 h4
        go_enter Tryz.func96, Tryz.ntmps96
        go_wp2_with fail
        go_at_call 87
        refine (hV1 _).mono ?_
        rintro x w' ⟨rfl, rfl⟩
        go_wp2_with fail
        go_at_call 87
        refine (hV2 _).mono ?_
        rintro x w' ⟨rfl, rfl⟩
        go_wp2_with fail
        go_ret
        exact ⟨ret_bool HE.out.symm, rfl⟩

set_option maxHeartbeats 600000 in
set_option maxRecDepth 100000 in
theorem cFull {v : Value} {l : List C7} {w : World} (t : Int) (h : Sl w v l) (hl : l.length ≤ 1024) : Calls Tryz.prog 115 #[.agg #[.int .i64 t, v]] w fun e w' => e = .returned (.bool (fullB t l)) ∧ Below w.heap.size w w' := by
  obtain ⟨_, _, cap, a, hv, _⟩ := id h
  subst hv
  have hS := cSetRight (h.on ((Below.refl _ w).alloc (Nat.le_refl _) (boxV t (.slice a l.length cap)))) hl
  have hV := fun W => cValid t W
  rcases hv : validB t with _ | _
  · rw [hv] at hV
    have HE := hid (show fullB t l = false by unfold fullB; rw [hv]; rfl)
    clear hv
    go_enter Tryz.func115, Tryz.ntmps115
    go_wp2_with (first | (go_at_call 87; refine (hV _).mono ?_; rintro e w' ⟨rfl, rfl⟩) | (go_at_call 144; refine hS.mono ?_; rintro e w1 ⟨rfl, hB⟩; have HB := hid hB; clear hB))
    go_ret
    exact ⟨ret_bool HE.out.symm, ((Below.refl _ w).alloc (Nat.le_refl _) _)⟩
  · rw [hv] at hV
    have HE := hid (show fullB t l = setB l by unfold fullB; rw [hv]; rfl)
    clear hv
    go_enter Tryz.func115, Tryz.ntmps115
    go_wp2_with (first | (go_at_call 87; refine (hV _).mono ?_; rintro e w' ⟨rfl, rfl⟩) | (go_at_call 144; refine hS.mono ?_; rintro e w1 ⟨rfl, hB⟩; have HB := hid hB; clear hB))
    go_ret
    exact ⟨ret_bool HE.out.symm, ((Below.refl _ w).alloc (Nat.le_refl _) _).trans (HB.out.mono (by simp))⟩

set_option maxHeartbeats 600000 in
set_option maxRecDepth 100000 in
theorem cMust {v : Value} {l : List C7} {w : World} (t : Int) (is : Bool) (h : Sl w v l) (hl : l.length ≤ 1024) : Calls Tryz.prog 97 #[.agg #[.int .i64 t, v], .bool is] w fun e w' => e = .returned (.bool (mustB t l is)) ∧ Below w.heap.size w w' := by
  obtain ⟨_, _, cap, a, hv, _⟩ := id h
  subst hv
  have hF := fun W hB => cFull (w := W) t (h.on hB) hl
  have hN := fun W => cNone (a := a) (cap := cap) (l := l) (w := W) t rfl
  have HE := hid (show mustB t l is = ((is && fullB t l) || (!is && noneB t l)) from rfl)
  clear h
  have HW : Hid (Below w.heap.size w (w.alloc (boxV t (.slice a l.length cap)))) := hid ((Below.refl _ w).alloc (Nat.le_refl _) _)
  rcases is with _ | _
  · go_enter Tryz.func97, Tryz.ntmps97
    go_wp2_with (go_at_call 98; (
            refine (hN _).mono ?_
            rintro e w2 ⟨rfl, hB⟩
            have HB2 := hid hB
            clear hB))
    go_ret
    exact ⟨ret_bool (by rw [HE.out]; simp), by first | exact HB2.out | exact HW.out.trans (HB2.out.mono (by simp))⟩
  · go_enter Tryz.func97, Tryz.ntmps97
    go_wp2_with (go_at_call 115; (
            refine (hF _ (by first | exact HW.out | exact Below.refl _ _)).mono ?_
            rintro e w2 ⟨rfl, hB⟩
            have HB2 := hid hB
            clear hB))
    go_ret
    exact ⟨ret_bool (by rw [HE.out]; simp), by first | exact HB2.out | exact HW.out.trans (HB2.out.mono (by simp))⟩

end Go.Proofs.YtogoibigabpkhaaGreat
