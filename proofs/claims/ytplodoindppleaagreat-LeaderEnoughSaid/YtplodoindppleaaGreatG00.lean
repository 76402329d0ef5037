import Derived.Test.YtplodoindppleaaGreatRows
import Derived.WalkKit
import Derived.LoopTactic
import Derived.ProofKit
import Derived.Lib.Hide
import Derived.Deep.QuietTactic
import Derived.BigQuiet
import Derived.Outline
namespace Go.Proofs.YtplodoindppleaaGreat
open Go.RowKit
theorem gA {α : Type _} {l : List α} {i : Nat} : l.toArray[i]? = l[i]? := by simp
theorem gB {α : Type _} {a : α} {l : List α} {i : Nat} : (a :: l)[i + 1]? = l[i]? := by simp
theorem gC {α : Type _} {a : α} {l : List α} : (a :: l)[0]? = some a := by simp
theorem gD {α : Type _} {l : List α} {i : Nat} {a : α} : l.toArray.setIfInBounds i a = (l.set i a).toArray := by simp
theorem gE {α : Type _} {a b : α} {l : List α} {i : Nat} : (a :: l).set (i + 1) b = a :: l.set i b := by simp
theorem gF {α : Type _} {a b : α} {l : List α} : (a :: l).set 0 b = b :: l := by simp
def namedB (x : Int) : Bool := decide (16 ≤ x ∧ x < 4112 ∧ x % 16 ≤ 8)
def withinB (x g : Int) : Bool := decide (0 ≤ x ∧ x ≤ g)
theorem named_true {x : Int} : namedB x = true ↔ 16 ≤ x ∧ x < 4112 ∧ x % 16 ≤ 8 := by unfold namedB; simp
theorem within_true {x g : Int} : withinB x g = true ↔ 0 ≤ x ∧ x ≤ g := by unfold withinB; simp
theorem within_false {x g : Int} : withinB x g = false ↔ ¬ (0 ≤ x ∧ x ≤ g) := by unfold withinB; simp
theorem ret_int {k : IntKind} {a b : Int} (h : a = b) : Ending.returned (.int k a) = .returned (.int k b) := by rw [h]
theorem ret_bool {a b : Bool} (h : a = b) : Ending.returned (.bool a) = .returned (.bool b) := by rw [h]
theorem cIsName (x : Int) (w : World) : Calls Tryz.prog 116 #[.int .i64 x] w fun e w' => e = .returned (.bool (namedB x)) ∧ w = w' := by
 by_cases h0 : 16 ≤ x
 · by_cases h1 : x < 4112
   · by_cases h2 : x % 16 < 9
     · go_enter Tryz.func116, Tryz.ntmps116
       go_wp2
       go_ret
       exact ⟨ret_bool (by unfold namedB; symm; simp; omega), rfl⟩
     · go_enter Tryz.func116, Tryz.ntmps116
       go_wp2
       go_ret
       exact ⟨ret_bool (by unfold namedB; symm; simp; omega), rfl⟩
   · go_enter Tryz.func116, Tryz.ntmps116
     go_wp2
     go_ret
     exact ⟨ret_bool (by unfold namedB; symm; simp; omega), rfl⟩
 · go_enter Tryz.func116, Tryz.ntmps116
   go_wp2
   go_ret
   exact ⟨ret_bool (by unfold namedB; symm; simp; omega), rfl⟩
theorem rNamed (x : Int) (w : World) : Calls Tryz.prog 81 #[.int .i64 x] w fun e w' => e = .returned (.bool (namedB x)) ∧ w = w' := by
 by_cases h0 : 16 ≤ x
 · by_cases h1 : x < 4112
   · by_cases h2 : x % 16 ≤ 8
     · go_enter Tryz.func81, Tryz.ntmps81
       go_wp2
       go_ret
       exact ⟨ret_bool (by unfold namedB; symm; simp; omega), rfl⟩
     · go_enter Tryz.func81, Tryz.ntmps81
       go_wp2
       go_ret
       exact ⟨ret_bool (by unfold namedB; symm; simp; omega), rfl⟩
   · go_enter Tryz.func81, Tryz.ntmps81
     go_wp2
     go_ret
     exact ⟨ret_bool (by unfold namedB; symm; simp; omega), rfl⟩
 · go_enter Tryz.func81, Tryz.ntmps81
   go_wp2
   go_ret
   exact ⟨ret_bool (by unfold namedB; symm; simp; omega), rfl⟩
theorem cWithin (x g : Int) (w : World) : Calls Tryz.prog 117 #[.int .i64 x, .int .i64 g] w fun e w' => e = .returned (.bool (withinB x g)) ∧ w = w' := by
 by_cases h0 : 0 ≤ x
 · go_enter Tryz.func117, Tryz.ntmps117
   go_wp2
   go_ret
   exact ⟨ret_bool (by unfold withinB; symm; simp; omega), rfl⟩
 · go_enter Tryz.func117, Tryz.ntmps117
   go_wp2
   go_ret
   exact ⟨ret_bool (by unfold withinB; symm; simp; omega), rfl⟩
theorem rIn (x : Int) (w : World) : Calls Tryz.prog 82 #[.int .i64 x] w fun e w' => e = .returned (.bool (withinB x 1048576)) ∧ w = w' := by
 by_cases h0 : 0 ≤ x
 · go_enter Tryz.func82, Tryz.ntmps82
   go_wp2
   go_ret
   exact ⟨ret_bool (by unfold withinB; symm; simp; omega), rfl⟩
 · go_enter Tryz.func82, Tryz.ntmps82
   go_wp2
   go_ret
   exact ⟨ret_bool (by unfold withinB; symm; simp; omega), rfl⟩
theorem cMost_yes (g : Int) (w : World) : Calls Tryz.prog 118 #[.bool true, .int .i64 g] w fun e w' => e = .returned (.int .i64 g) ∧ w = w' := by
 go_enter Tryz.func118, Tryz.ntmps118
 go_wp2
 go_ret
 exact ⟨rfl, rfl⟩
theorem cMost_no (g : Int) (w : World) : Calls Tryz.prog 118 #[.bool false, .int .i64 g] w fun e w' => e = .returned (.int .i64 0) ∧ w = w' := by
 go_enter Tryz.func118, Tryz.ntmps118
 go_wp2
 go_ret
 exact ⟨rfl, rfl⟩
end Go.Proofs.YtplodoindppleaaGreat
namespace Go.Proofs.YtplodoindppleaaGreat
open Go.RowKit
abbrev partsV (a b c d ok : Bool) : Value := .tuple #[.agg #[.bool a, .bool b, .bool c, .bool d], .bool ok]
theorem below_two (w : World) (o p : Obj) : Below w.heap.size w ((w.alloc o).alloc p) := ((Below.refl _ _).alloc (Nat.le_refl _) _).alloc (by simp) _
theorem cParts0 (w : World) : Calls Tryz.prog 115 #[.int .i64 0] w fun e w' => e = .returned (partsV false true true true true) ∧ Below w.heap.size w w' := by
 go_enter Tryz.func115, Tryz.ntmps115
 go_wp2
 exact bodyPost_ret (v := partsV false true true true true) (by simp [results, Tryz.results115, go_sem]) rfl ⟨rfl, below_two _ _ _⟩
theorem cParts1 (w : World) : Calls Tryz.prog 115 #[.int .i64 1] w fun e w' => e = .returned (partsV true false false false true) ∧ Below w.heap.size w w' := by
 go_enter Tryz.func115, Tryz.ntmps115
 go_wp2
 exact bodyPost_ret (v := partsV true false false false true) (by simp [results, Tryz.results115, go_sem]) rfl ⟨rfl, below_two _ _ _⟩
theorem cParts2 (w : World) : Calls Tryz.prog 115 #[.int .i64 2] w fun e w' => e = .returned (partsV true false false true true) ∧ Below w.heap.size w w' := by
 go_enter Tryz.func115, Tryz.ntmps115
 go_wp2
 exact bodyPost_ret (v := partsV true false false true true) (by simp [results, Tryz.results115, go_sem]) rfl ⟨rfl, below_two _ _ _⟩
theorem cParts_no (k : Int) (h0 : k ≠ 0) (h1 : k ≠ 1) (h2 : k ≠ 2) (w : World) : Calls Tryz.prog 115 #[.int .i64 k] w fun e w' => e = .returned (partsV false false false false false) ∧ Below w.heap.size w w' := by
 go_enter Tryz.func115, Tryz.ntmps115
 go_wp2
 exact bodyPost_ret (v := partsV false false false false false) (by simp [results, Tryz.results115, go_sem]) rfl ⟨rfl, below_two _ _ _⟩
end Go.Proofs.YtplodoindppleaaGreat
namespace Go.Proofs.YtplodoindppleaaGreat
open Go.RowKit
abbrev cmV (i k s t d p q : Int) : Value := .agg #[.int .i64 i, .int .i64 k, .int .i64 s, .int .i64 t, .int .i64 d, .int .i64 p, .int .i64 q]
def oneB (i k s t d p q : Int) : Bool :=
 namedB i && withinB s 3 &&
  (if k = 0 then t == 0 && withinB d 1 && withinB p 1048576 && withinB q 1048576
   else if k = 1 then namedB t && withinB d 0 && withinB p 0 && withinB q 0
   else if k = 2 then namedB t && withinB d 0 && withinB p 0 && withinB q 1048576
   else false)
theorem box_cells {w w1 : World} {xs : Array Value} {T : TypeId} (hb : Below (w.alloc (.cells xs T)).heap.size (w.alloc (.cells xs T)) w1) :
 (∀ o, w1.cell? ⟨w.heap.size, o, none⟩ = xs[o]?) ∧ w.heap.size < w1.heap.size ∧ Below w.heap.size w w1 := by
 have hs := hb.size
 refine ⟨fun o => ?_, by simp at hs; omega, ((Below.refl _ _).alloc (Nat.le_refl _) _).trans (hb.mono (by simp))⟩
 rw [hb.cell (by simp)]
 simp [go_sem]
theorem quietS {P : Program} {f : FuncId} {args : Array Value} {w : World} {n : Nat} {v : Value} (h : Calls P f args (w.drewN n) fun e w' => e = .returned v ∧ w.drewN n = w') : Calls P f args (w.drewN n) fun e w'' => e = .returned v ∧ ∃ m, w'' = w.drewN m :=
 h.mono fun _ _ ⟨he, hm⟩ => ⟨he, n, hm.symm⟩
theorem cWithin_t (x g : Int) (h : withinB x g = true) (w : World) : Calls Tryz.prog 117 #[.int .i64 x, .int .i64 g] w fun e w' => e = .returned (.bool true) ∧ w = w' := h ▸ cWithin x g w
theorem cWithin_f (x g : Int) (h : withinB x g = false) (w : World) : Calls Tryz.prog 117 #[.int .i64 x, .int .i64 g] w fun e w' => e = .returned (.bool false) ∧ w = w' := h ▸ cWithin x g w
theorem Below.drewN' {B : Nat} {a w : World} (h : Below B a w) (n : Nat) : Below B a (w.drewN n) := ⟨h.os, h.tape, h.output, h.size, h.block⟩
set_option maxRecDepth 100000 in
theorem cMayBe_no (i k s t d p q : Int) (h0 : k ≠ 0) (h1 : k ≠ 1) (h2 : k ≠ 2) (w : World) : Calls Tryz.prog 89 #[cmV i k s t d p q] w fun e w' => e = .returned (.bool false) ∧ Below w.heap.size w w' := by
 go_enter Tryz.func89, Tryz.ntmps89
 go_wp2_with (first | (go_at_call 115; refine (cParts_no _ h0 h1 h2 _).mono ?_; rintro e w1 ⟨rfl, hb⟩; obtain ⟨hc, hz, hB⟩ := box_cells hb; clear hb) | (go_at_call 116; refine (cIsName _ _).mono ?_; rintro e w' ⟨rfl, rfl⟩) | (go_at_call 117; refine (cWithin _ _ _).mono ?_; rintro e w' ⟨rfl, rfl⟩))
 go_ret
 exact ⟨rfl, hB.alloc (by omega) _⟩
set_option maxRecDepth 100000 in
theorem cMayBe0_name (i s t d p q : Int) (hn : namedB i = false) (w : World) : Calls Tryz.prog 89 #[cmV i 0 s t d p q] w fun e w' => e = .returned (.bool false) ∧ Below w.heap.size w w' := by
 go_enter Tryz.func89, Tryz.ntmps89
 go_wp2_with (first | (go_at_call 115; refine (cParts0 _).mono ?_; rintro e w1 ⟨rfl, hb⟩; obtain ⟨hc, hz, hB⟩ := box_cells hb; clear hb) | (go_at_call 116; refine (cIsName _ _).mono ?_; rintro e w' ⟨rfl, rfl⟩) | (go_at_call 117; refine (cWithin _ _ _).mono ?_; rintro e w' ⟨rfl, rfl⟩))
 go_ret
 exact ⟨rfl, hB.alloc (by omega) _⟩
set_option maxRecDepth 100000 in
theorem cMayBe0_sym (i s t d p q : Int) (hn : namedB i = true) (hs : withinB s 3 = false) (w : World) : Calls Tryz.prog 89 #[cmV i 0 s t d p q] w fun e w' => e = .returned (.bool false) ∧ Below w.heap.size w w' := by
 go_enter Tryz.func89, Tryz.ntmps89
 go_wp2_with (first | (go_at_call 115; refine (cParts0 _).mono ?_; rintro e w1 ⟨rfl, hb⟩; obtain ⟨hc, hz, hB⟩ := box_cells hb; clear hb) | (go_at_call 116; refine (cIsName _ _).mono ?_; rintro e w' ⟨rfl, rfl⟩) | (go_at_call 117; refine (cWithin _ _ _).mono ?_; rintro e w' ⟨rfl, rfl⟩))
 go_ret
 exact ⟨rfl, hB.alloc (by omega) _⟩
set_option maxRecDepth 100000 in
theorem cMayBe0_tgt (i s t d p q : Int) (hn : namedB i = true) (hs : withinB s 3 = true) (ht : t ≠ 0) (w : World) : Calls Tryz.prog 89 #[cmV i 0 s t d p q] w fun e w' => e = .returned (.bool false) ∧ Below w.heap.size w w' := by
 go_enter Tryz.func89, Tryz.ntmps89
 go_wp2_with (first | (go_at_call 115; refine (cParts0 _).mono ?_; rintro e w1 ⟨rfl, hb⟩; obtain ⟨hc, hz, hB⟩ := box_cells hb; clear hb) | (go_at_call 116; refine (cIsName _ _).mono ?_; rintro e w' ⟨rfl, rfl⟩) | (go_at_call 117; refine (cWithin _ _ _).mono ?_; rintro e w' ⟨rfl, rfl⟩))
 go_ret
 exact ⟨rfl, hB.alloc (by omega) _⟩
set_option maxRecDepth 100000 in
theorem cMayBe0_side (i s d p q : Int) (hn : namedB i = true) (hs : withinB s 3 = true) (hd : withinB d 1 = false) (w : World) : Calls Tryz.prog 89 #[cmV i 0 s 0 d p q] w fun e w' => e = .returned (.bool false) ∧ Below w.heap.size w w' := by
 go_enter Tryz.func89, Tryz.ntmps89
 go_wp2_with (first | (go_at_call 115; refine (cParts0 _).mono ?_; rintro e w1 ⟨rfl, hb⟩; obtain ⟨hc, hz, hB⟩ := box_cells hb; clear hb) | (go_at_call 116; refine (cIsName _ _).mono ?_; rintro e w' ⟨rfl, rfl⟩) | (go_at_call 117; refine (cWithin _ _ _).mono ?_; rintro e w' ⟨rfl, rfl⟩))
 go_quiet ((first | (go_at_call 117; with_reducible exact quietS (cWithin_t _ _ (by assumption) _)) | (go_at_call 117; with_reducible exact quietS (cWithin_f _ _ (by assumption) _)) | (go_at_call 117; with_reducible exact quietS (cWithin _ _ _)) | (go_at_call 118; with_reducible exact quietS (cMost_yes _ _)) | (go_at_call 118; with_reducible exact quietS (cMost_no _ _))))
 go_wp2
 go_ret
 exact ⟨rfl, Below.drewN' (hB.alloc (by omega) _) _⟩
set_option maxRecDepth 100000 in
theorem cMayBe0_price (i s d p q : Int) (hn : namedB i = true) (hs : withinB s 3 = true) (hd : withinB d 1 = true) (hp : withinB p 1048576 = false) (w : World) : Calls Tryz.prog 89 #[cmV i 0 s 0 d p q] w fun e w' => e = .returned (.bool false) ∧ Below w.heap.size w w' := by
 go_enter Tryz.func89, Tryz.ntmps89
 go_wp2_with (first | (go_at_call 115; refine (cParts0 _).mono ?_; rintro e w1 ⟨rfl, hb⟩; obtain ⟨hc, hz, hB⟩ := box_cells hb; clear hb) | (go_at_call 116; refine (cIsName _ _).mono ?_; rintro e w' ⟨rfl, rfl⟩) | (go_at_call 117; refine (cWithin _ _ _).mono ?_; rintro e w' ⟨rfl, rfl⟩))
 go_quiet ((first | (go_at_call 117; with_reducible exact quietS (cWithin_t _ _ (by assumption) _)) | (go_at_call 117; with_reducible exact quietS (cWithin_f _ _ (by assumption) _)) | (go_at_call 117; with_reducible exact quietS (cWithin _ _ _)) | (go_at_call 118; with_reducible exact quietS (cMost_yes _ _)) | (go_at_call 118; with_reducible exact quietS (cMost_no _ _))))
 go_wp2
 go_ret
 exact ⟨rfl, Below.drewN' (hB.alloc (by omega) _) _⟩
set_option maxRecDepth 100000 in
theorem cMayBe0_qty (i s d p q : Int) (hn : namedB i = true) (hs : withinB s 3 = true) (hd : withinB d 1 = true) (hp : withinB p 1048576 = true) (w : World) : Calls Tryz.prog 89 #[cmV i 0 s 0 d p q] w fun e w' => e = .returned (.bool (withinB q 1048576)) ∧ Below w.heap.size w w' := by
 go_enter Tryz.func89, Tryz.ntmps89
 go_wp2_with (first | (go_at_call 115; refine (cParts0 _).mono ?_; rintro e w1 ⟨rfl, hb⟩; obtain ⟨hc, hz, hB⟩ := box_cells hb; clear hb) | (go_at_call 116; refine (cIsName _ _).mono ?_; rintro e w' ⟨rfl, rfl⟩) | (go_at_call 117; refine (cWithin _ _ _).mono ?_; rintro e w' ⟨rfl, rfl⟩))
 go_quiet ((first | (go_at_call 117; with_reducible exact quietS (cWithin_t _ _ (by assumption) _)) | (go_at_call 117; with_reducible exact quietS (cWithin_f _ _ (by assumption) _)) | (go_at_call 117; with_reducible exact quietS (cWithin _ _ _)) | (go_at_call 118; with_reducible exact quietS (cMost_yes _ _)) | (go_at_call 118; with_reducible exact quietS (cMost_no _ _))))
 go_wp2
 go_ret
 exact ⟨rfl, Below.drewN' (hB.alloc (by omega) _) _⟩
set_option maxRecDepth 100000 in
theorem cMayBe1_name (i s t d p q : Int) (hn : namedB i = false) (w : World) : Calls Tryz.prog 89 #[cmV i 1 s t d p q] w fun e w' => e = .returned (.bool false) ∧ Below w.heap.size w w' := by
 go_enter Tryz.func89, Tryz.ntmps89
 go_wp2_with (first | (go_at_call 115; refine (cParts1 _).mono ?_; rintro e w1 ⟨rfl, hb⟩; obtain ⟨hc, hz, hB⟩ := box_cells hb; clear hb) | (go_at_call 116; refine (cIsName _ _).mono ?_; rintro e w' ⟨rfl, rfl⟩) | (go_at_call 117; refine (cWithin _ _ _).mono ?_; rintro e w' ⟨rfl, rfl⟩))
 go_ret
 exact ⟨rfl, hB.alloc (by omega) _⟩
set_option maxRecDepth 100000 in
theorem cMayBe1_sym (i s t d p q : Int) (hn : namedB i = true) (hs : withinB s 3 = false) (w : World) : Calls Tryz.prog 89 #[cmV i 1 s t d p q] w fun e w' => e = .returned (.bool false) ∧ Below w.heap.size w w' := by
 go_enter Tryz.func89, Tryz.ntmps89
 go_wp2_with (first | (go_at_call 115; refine (cParts1 _).mono ?_; rintro e w1 ⟨rfl, hb⟩; obtain ⟨hc, hz, hB⟩ := box_cells hb; clear hb) | (go_at_call 116; refine (cIsName _ _).mono ?_; rintro e w' ⟨rfl, rfl⟩) | (go_at_call 117; refine (cWithin _ _ _).mono ?_; rintro e w' ⟨rfl, rfl⟩))
 go_ret
 exact ⟨rfl, hB.alloc (by omega) _⟩
set_option maxRecDepth 100000 in
theorem cMayBe1_tgt (i s t d p q : Int) (hn : namedB i = true) (hs : withinB s 3 = true) (ht : namedB t = false) (w : World) : Calls Tryz.prog 89 #[cmV i 1 s t d p q] w fun e w' => e = .returned (.bool false) ∧ Below w.heap.size w w' := by
 go_enter Tryz.func89, Tryz.ntmps89
 go_wp2_with (first | (go_at_call 115; refine (cParts1 _).mono ?_; rintro e w1 ⟨rfl, hb⟩; obtain ⟨hc, hz, hB⟩ := box_cells hb; clear hb) | (go_at_call 116; refine (cIsName _ _).mono ?_; rintro e w' ⟨rfl, rfl⟩) | (go_at_call 117; refine (cWithin _ _ _).mono ?_; rintro e w' ⟨rfl, rfl⟩))
 go_ret
 exact ⟨rfl, hB.alloc (by omega) _⟩
set_option maxRecDepth 100000 in
theorem cMayBe1_side (i s t d p q : Int) (hn : namedB i = true) (hs : withinB s 3 = true) (ht : namedB t = true) (hd : withinB d 0 = false) (w : World) : Calls Tryz.prog 89 #[cmV i 1 s t d p q] w fun e w' => e = .returned (.bool false) ∧ Below w.heap.size w w' := by
 go_enter Tryz.func89, Tryz.ntmps89
 go_wp2_with (first | (go_at_call 115; refine (cParts1 _).mono ?_; rintro e w1 ⟨rfl, hb⟩; obtain ⟨hc, hz, hB⟩ := box_cells hb; clear hb) | (go_at_call 116; refine (cIsName _ _).mono ?_; rintro e w' ⟨rfl, rfl⟩) | (go_at_call 117; refine (cWithin _ _ _).mono ?_; rintro e w' ⟨rfl, rfl⟩))
 go_quiet ((first | (go_at_call 117; with_reducible exact quietS (cWithin_t _ _ (by assumption) _)) | (go_at_call 117; with_reducible exact quietS (cWithin_f _ _ (by assumption) _)) | (go_at_call 117; with_reducible exact quietS (cWithin _ _ _)) | (go_at_call 118; with_reducible exact quietS (cMost_yes _ _)) | (go_at_call 118; with_reducible exact quietS (cMost_no _ _))))
 go_wp2
 go_ret
 exact ⟨rfl, Below.drewN' (hB.alloc (by omega) _) _⟩
set_option maxRecDepth 100000 in
theorem cMayBe1_price (i s t d p q : Int) (hn : namedB i = true) (hs : withinB s 3 = true) (ht : namedB t = true) (hd : withinB d 0 = true) (hp : withinB p 0 = false) (w : World) : Calls Tryz.prog 89 #[cmV i 1 s t d p q] w fun e w' => e = .returned (.bool false) ∧ Below w.heap.size w w' := by
 go_enter Tryz.func89, Tryz.ntmps89
 go_wp2_with (first | (go_at_call 115; refine (cParts1 _).mono ?_; rintro e w1 ⟨rfl, hb⟩; obtain ⟨hc, hz, hB⟩ := box_cells hb; clear hb) | (go_at_call 116; refine (cIsName _ _).mono ?_; rintro e w' ⟨rfl, rfl⟩) | (go_at_call 117; refine (cWithin _ _ _).mono ?_; rintro e w' ⟨rfl, rfl⟩))
 go_quiet ((first | (go_at_call 117; with_reducible exact quietS (cWithin_t _ _ (by assumption) _)) | (go_at_call 117; with_reducible exact quietS (cWithin_f _ _ (by assumption) _)) | (go_at_call 117; with_reducible exact quietS (cWithin _ _ _)) | (go_at_call 118; with_reducible exact quietS (cMost_yes _ _)) | (go_at_call 118; with_reducible exact quietS (cMost_no _ _))))
 go_wp2
 go_ret
 exact ⟨rfl, Below.drewN' (hB.alloc (by omega) _) _⟩
set_option maxRecDepth 100000 in
theorem cMayBe1_qty (i s t d p q : Int) (hn : namedB i = true) (hs : withinB s 3 = true) (ht : namedB t = true) (hd : withinB d 0 = true) (hp : withinB p 0 = true) (w : World) : Calls Tryz.prog 89 #[cmV i 1 s t d p q] w fun e w' => e = .returned (.bool (withinB q 0)) ∧ Below w.heap.size w w' := by
 go_enter Tryz.func89, Tryz.ntmps89
 go_wp2_with (first | (go_at_call 115; refine (cParts1 _).mono ?_; rintro e w1 ⟨rfl, hb⟩; obtain ⟨hc, hz, hB⟩ := box_cells hb; clear hb) | (go_at_call 116; refine (cIsName _ _).mono ?_; rintro e w' ⟨rfl, rfl⟩) | (go_at_call 117; refine (cWithin _ _ _).mono ?_; rintro e w' ⟨rfl, rfl⟩))
 go_quiet ((first | (go_at_call 117; with_reducible exact quietS (cWithin_t _ _ (by assumption) _)) | (go_at_call 117; with_reducible exact quietS (cWithin_f _ _ (by assumption) _)) | (go_at_call 117; with_reducible exact quietS (cWithin _ _ _)) | (go_at_call 118; with_reducible exact quietS (cMost_yes _ _)) | (go_at_call 118; with_reducible exact quietS (cMost_no _ _))))
 go_wp2
 go_ret
 exact ⟨rfl, Below.drewN' (hB.alloc (by omega) _) _⟩
set_option maxRecDepth 100000 in
theorem cMayBe2_name (i s t d p q : Int) (hn : namedB i = false) (w : World) : Calls Tryz.prog 89 #[cmV i 2 s t d p q] w fun e w' => e = .returned (.bool false) ∧ Below w.heap.size w w' := by
 go_enter Tryz.func89, Tryz.ntmps89
 go_wp2_with (first | (go_at_call 115; refine (cParts2 _).mono ?_; rintro e w1 ⟨rfl, hb⟩; obtain ⟨hc, hz, hB⟩ := box_cells hb; clear hb) | (go_at_call 116; refine (cIsName _ _).mono ?_; rintro e w' ⟨rfl, rfl⟩) | (go_at_call 117; refine (cWithin _ _ _).mono ?_; rintro e w' ⟨rfl, rfl⟩))
 go_ret
 exact ⟨rfl, hB.alloc (by omega) _⟩
set_option maxRecDepth 100000 in
theorem cMayBe2_sym (i s t d p q : Int) (hn : namedB i = true) (hs : withinB s 3 = false) (w : World) : Calls Tryz.prog 89 #[cmV i 2 s t d p q] w fun e w' => e = .returned (.bool false) ∧ Below w.heap.size w w' := by
 go_enter Tryz.func89, Tryz.ntmps89
 go_wp2_with (first | (go_at_call 115; refine (cParts2 _).mono ?_; rintro e w1 ⟨rfl, hb⟩; obtain ⟨hc, hz, hB⟩ := box_cells hb; clear hb) | (go_at_call 116; refine (cIsName _ _).mono ?_; rintro e w' ⟨rfl, rfl⟩) | (go_at_call 117; refine (cWithin _ _ _).mono ?_; rintro e w' ⟨rfl, rfl⟩))
 go_ret
 exact ⟨rfl, hB.alloc (by omega) _⟩
set_option maxRecDepth 100000 in
theorem cMayBe2_tgt (i s t d p q : Int) (hn : namedB i = true) (hs : withinB s 3 = true) (ht : namedB t = false) (w : World) : Calls Tryz.prog 89 #[cmV i 2 s t d p q] w fun e w' => e = .returned (.bool false) ∧ Below w.heap.size w w' := by
 go_enter Tryz.func89, Tryz.ntmps89
 go_wp2_with (first | (go_at_call 115; refine (cParts2 _).mono ?_; rintro e w1 ⟨rfl, hb⟩; obtain ⟨hc, hz, hB⟩ := box_cells hb; clear hb) | (go_at_call 116; refine (cIsName _ _).mono ?_; rintro e w' ⟨rfl, rfl⟩) | (go_at_call 117; refine (cWithin _ _ _).mono ?_; rintro e w' ⟨rfl, rfl⟩))
 go_ret
 exact ⟨rfl, hB.alloc (by omega) _⟩
set_option maxRecDepth 100000 in
theorem cMayBe2_side (i s t d p q : Int) (hn : namedB i = true) (hs : withinB s 3 = true) (ht : namedB t = true) (hd : withinB d 0 = false) (w : World) : Calls Tryz.prog 89 #[cmV i 2 s t d p q] w fun e w' => e = .returned (.bool false) ∧ Below w.heap.size w w' := by
 go_enter Tryz.func89, Tryz.ntmps89
 go_wp2_with (first | (go_at_call 115; refine (cParts2 _).mono ?_; rintro e w1 ⟨rfl, hb⟩; obtain ⟨hc, hz, hB⟩ := box_cells hb; clear hb) | (go_at_call 116; refine (cIsName _ _).mono ?_; rintro e w' ⟨rfl, rfl⟩) | (go_at_call 117; refine (cWithin _ _ _).mono ?_; rintro e w' ⟨rfl, rfl⟩))
 go_quiet ((first | (go_at_call 117; with_reducible exact quietS (cWithin_t _ _ (by assumption) _)) | (go_at_call 117; with_reducible exact quietS (cWithin_f _ _ (by assumption) _)) | (go_at_call 117; with_reducible exact quietS (cWithin _ _ _)) | (go_at_call 118; with_reducible exact quietS (cMost_yes _ _)) | (go_at_call 118; with_reducible exact quietS (cMost_no _ _))))
 go_wp2
 go_ret
 exact ⟨rfl, Below.drewN' (hB.alloc (by omega) _) _⟩
set_option maxRecDepth 100000 in
theorem cMayBe2_price (i s t d p q : Int) (hn : namedB i = true) (hs : withinB s 3 = true) (ht : namedB t = true) (hd : withinB d 0 = true) (hp : withinB p 0 = false) (w : World) : Calls Tryz.prog 89 #[cmV i 2 s t d p q] w fun e w' => e = .returned (.bool false) ∧ Below w.heap.size w w' := by
 go_enter Tryz.func89, Tryz.ntmps89
 go_wp2_with (first | (go_at_call 115; refine (cParts2 _).mono ?_; rintro e w1 ⟨rfl, hb⟩; obtain ⟨hc, hz, hB⟩ := box_cells hb; clear hb) | (go_at_call 116; refine (cIsName _ _).mono ?_; rintro e w' ⟨rfl, rfl⟩) | (go_at_call 117; refine (cWithin _ _ _).mono ?_; rintro e w' ⟨rfl, rfl⟩))
 go_quiet ((first | (go_at_call 117; with_reducible exact quietS (cWithin_t _ _ (by assumption) _)) | (go_at_call 117; with_reducible exact quietS (cWithin_f _ _ (by assumption) _)) | (go_at_call 117; with_reducible exact quietS (cWithin _ _ _)) | (go_at_call 118; with_reducible exact quietS (cMost_yes _ _)) | (go_at_call 118; with_reducible exact quietS (cMost_no _ _))))
 go_wp2
 go_ret
 exact ⟨rfl, Below.drewN' (hB.alloc (by omega) _) _⟩
set_option maxRecDepth 100000 in
theorem cMayBe2_qty (i s t d p q : Int) (hn : namedB i = true) (hs : withinB s 3 = true) (ht : namedB t = true) (hd : withinB d 0 = true) (hp : withinB p 0 = true) (w : World) : Calls Tryz.prog 89 #[cmV i 2 s t d p q] w fun e w' => e = .returned (.bool (withinB q 1048576)) ∧ Below w.heap.size w w' := by
 go_enter Tryz.func89, Tryz.ntmps89
 go_wp2_with (first | (go_at_call 115; refine (cParts2 _).mono ?_; rintro e w1 ⟨rfl, hb⟩; obtain ⟨hc, hz, hB⟩ := box_cells hb; clear hb) | (go_at_call 116; refine (cIsName _ _).mono ?_; rintro e w' ⟨rfl, rfl⟩) | (go_at_call 117; refine (cWithin _ _ _).mono ?_; rintro e w' ⟨rfl, rfl⟩))
 go_quiet ((first | (go_at_call 117; with_reducible exact quietS (cWithin_t _ _ (by assumption) _)) | (go_at_call 117; with_reducible exact quietS (cWithin_f _ _ (by assumption) _)) | (go_at_call 117; with_reducible exact quietS (cWithin _ _ _)) | (go_at_call 118; with_reducible exact quietS (cMost_yes _ _)) | (go_at_call 118; with_reducible exact quietS (cMost_no _ _))))
 go_wp2
 go_ret
 exact ⟨rfl, Below.drewN' (hB.alloc (by omega) _) _⟩
theorem cMayBe (i k s t d p q : Int) (w : World) : Calls Tryz.prog 89 #[cmV i k s t d p q] w fun e w' => e = .returned (.bool (oneB i k s t d p q)) ∧ Below w.heap.size w w' := by
 by_cases k0 : k = 0
 · subst k0
   rcases hn : namedB i with _ | _
   · simpa [oneB, hn] using cMayBe0_name i s t d p q hn w
   rcases hs : withinB s 3 with _ | _
   · simpa [oneB, hn, hs] using cMayBe0_sym i s t d p q hn hs w
   by_cases ht : t = 0
   · subst ht
     rcases hd : withinB d 1 with _ | _
     · simpa [oneB, hn, hs, hd] using cMayBe0_side i s d p q hn hs hd w
     rcases hp : withinB p 1048576 with _ | _
     · simpa [oneB, hn, hs, hd, hp] using cMayBe0_price i s d p q hn hs hd hp w
     · simpa [oneB, hn, hs, hd, hp] using cMayBe0_qty i s d p q hn hs hd hp w
   · simpa [oneB, hn, hs, ht, beq_false_of_ne ht] using cMayBe0_tgt i s t d p q hn hs ht w
 by_cases k1 : k = 1
 · subst k1
   rcases hn : namedB i with _ | _
   · simpa [oneB, hn] using cMayBe1_name i s t d p q hn w
   rcases hs : withinB s 3 with _ | _
   · simpa [oneB, hn, hs] using cMayBe1_sym i s t d p q hn hs w
   rcases ht : namedB t with _ | _
   · simpa [oneB, hn, hs, ht] using cMayBe1_tgt i s t d p q hn hs ht w
   rcases hd : withinB d 0 with _ | _
   · simpa [oneB, hn, hs, ht, hd] using cMayBe1_side i s t d p q hn hs ht hd w
   rcases hp : withinB p 0 with _ | _
   · simpa [oneB, hn, hs, ht, hd, hp] using cMayBe1_price i s t d p q hn hs ht hd hp w
   · simpa [oneB, hn, hs, ht, hd, hp] using cMayBe1_qty i s t d p q hn hs ht hd hp w
 by_cases k2 : k = 2
 · subst k2
   rcases hn : namedB i with _ | _
   · simpa [oneB, hn] using cMayBe2_name i s t d p q hn w
   rcases hs : withinB s 3 with _ | _
   · simpa [oneB, hn, hs] using cMayBe2_sym i s t d p q hn hs w
   rcases ht : namedB t with _ | _
   · simpa [oneB, hn, hs, ht] using cMayBe2_tgt i s t d p q hn hs ht w
   rcases hd : withinB d 0 with _ | _
   · simpa [oneB, hn, hs, ht, hd] using cMayBe2_side i s t d p q hn hs ht hd w
   rcases hp : withinB p 0 with _ | _
   · simpa [oneB, hn, hs, ht, hd, hp] using cMayBe2_price i s t d p q hn hs ht hd hp w
   · simpa [oneB, hn, hs, ht, hd, hp] using cMayBe2_qty i s t d p q hn hs ht hd hp w
 · simpa [oneB, k0, k1, k2] using cMayBe_no i k s t d p q k0 k1 k2 w
end Go.Proofs.YtplodoindppleaaGreat
