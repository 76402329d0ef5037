import Derived.Test.YtlehcaacfgocaaaGreatRows
import Derived.WalkKit
import Derived.LoopTactic
import Derived.ProofKit
import Derived.Lib.Hide
import Derived.Deep.QuietTactic
import Derived.BigQuiet
import Derived.Outline
import Derived.Deep.Light
namespace Go.Proofs.YtlehcaacfgocaaaGreat
open Go.RowKit
def namedB (x : Int) : Bool := decide (16 ≤ x ∧ x < 4112 ∧ x % 16 ≤ 8)
def withinB (x g : Int) : Bool := decide (0 ≤ x ∧ x ≤ g)
theorem named_true {x : Int} : namedB x = true ↔ 16 ≤ x ∧ x < 4112 ∧ x % 16 ≤ 8 := by unfold namedB; simp
theorem within_true {x g : Int} : withinB x g = true ↔ 0 ≤ x ∧ x ≤ g := by unfold withinB; simp
theorem ret_int {k : IntKind} {a b : Int} (h : a = b) : Ending.returned (.int k a) = .returned (.int k b) := by rw [h]
theorem ret_bool {a b : Bool} (h : a = b) : Ending.returned (.bool a) = .returned (.bool b) := by rw [h]
abbrev two (a b : Int) : Value := .tuple #[.int .i64 a, .int .i64 b]
theorem ret_two {a b c d : Int} (h : a = c) (h' : b = d) : Ending.returned (.tuple #[.int .i64 a, .int .i64 b]) = .returned (two c d) := by rw [h, h']
theorem cIsName (x : Int) (w : World) : Calls Tryz.prog 139 #[.int .i64 x] w fun e w' => e = .returned (.bool (namedB x)) ∧ w = w' := by
  by_cases h0 : 16 ≤ x
  · by_cases h1 : x < 4112
    · by_cases h2 : x % 16 < 9
      · go_enter Tryz.func139, Tryz.ntmps139
        go_wp2
        go_ret
        exact ⟨ret_bool (by unfold namedB; symm; simp; omega), rfl⟩
      · go_enter Tryz.func139, Tryz.ntmps139
        go_wp2
        go_ret
        exact ⟨ret_bool (by unfold namedB; symm; simp; omega), rfl⟩
    · go_enter Tryz.func139, Tryz.ntmps139
      go_wp2
      go_ret
      exact ⟨ret_bool (by unfold namedB; symm; simp; omega), rfl⟩
  · go_enter Tryz.func139, Tryz.ntmps139
    go_wp2
    go_ret
    exact ⟨ret_bool (by unfold namedB; symm; simp; omega), rfl⟩
theorem cWithin (x g : Int) (w : World) : Calls Tryz.prog 140 #[.int .i64 x, .int .i64 g] w fun e w' => e = .returned (.bool (withinB x g)) ∧ w = w' := by
  by_cases h0 : 0 ≤ x
  · go_enter Tryz.func140, Tryz.ntmps140
    go_wp2
    go_ret
    exact ⟨ret_bool (by unfold withinB; symm; simp; omega), rfl⟩
  · go_enter Tryz.func140, Tryz.ntmps140
    go_wp2
    go_ret
    exact ⟨ret_bool (by unfold withinB; symm; simp; omega), rfl⟩
theorem cMost_yes (g : Int) (w : World) : Calls Tryz.prog 141 #[.bool true, .int .i64 g] w fun e w' => e = .returned (.int .i64 g) ∧ w = w' := by
  go_enter Tryz.func141, Tryz.ntmps141
  go_wp2
  go_ret
  exact ⟨rfl, rfl⟩
theorem cMost_no (g : Int) (w : World) : Calls Tryz.prog 141 #[.bool false, .int .i64 g] w fun e w' => e = .returned (.int .i64 0) ∧ w = w' := by
  go_enter Tryz.func141, Tryz.ntmps141
  go_wp2
  go_ret
  exact ⟨rfl, rfl⟩
end Go.Proofs.YtlehcaacfgocaaaGreat
namespace Go.Proofs.YtlehcaacfgocaaaGreat
open Go.RowKit
abbrev partsV (a b c d ok : Bool) : Value := .tuple #[.agg #[.bool a, .bool b, .bool c, .bool d], .bool ok]
theorem below_two (w : World) (o p : Obj) : Below w.heap.size w ((w.alloc o).alloc p) := ((Below.refl _ _).alloc (Nat.le_refl _) _).alloc (by simp) _
theorem cParts0 (w : World) : Calls Tryz.prog 138 #[.int .i64 0] w fun e w' => e = .returned (partsV false true true true true) ∧ Below w.heap.size w w' := by
  go_enter Tryz.func138, Tryz.ntmps138
  go_wp2
  exact bodyPost_ret (v := partsV false true true true true) (by simp [results, Tryz.results138, go_sem]) rfl ⟨rfl, below_two _ _ _⟩
theorem cParts1 (w : World) : Calls Tryz.prog 138 #[.int .i64 1] w fun e w' => e = .returned (partsV true false false false true) ∧ Below w.heap.size w w' := by
  go_enter Tryz.func138, Tryz.ntmps138
  go_wp2
  exact bodyPost_ret (v := partsV true false false false true) (by simp [results, Tryz.results138, go_sem]) rfl ⟨rfl, below_two _ _ _⟩
theorem cParts2 (w : World) : Calls Tryz.prog 138 #[.int .i64 2] w fun e w' => e = .returned (partsV true false false true true) ∧ Below w.heap.size w w' := by
  go_enter Tryz.func138, Tryz.ntmps138
  go_wp2
  exact bodyPost_ret (v := partsV true false false true true) (by simp [results, Tryz.results138, go_sem]) rfl ⟨rfl, below_two _ _ _⟩
theorem cParts_no (k : Int) (h0 : k ≠ 0) (h1 : k ≠ 1) (h2 : k ≠ 2) (w : World) : Calls Tryz.prog 138 #[.int .i64 k] w fun e w' => e = .returned (partsV false false false false false) ∧ Below w.heap.size w w' := by
  go_enter Tryz.func138, Tryz.ntmps138
  go_wp2
  exact bodyPost_ret (v := partsV false false false false false) (by simp [results, Tryz.results138, go_sem]) rfl ⟨rfl, below_two _ _ _⟩
end Go.Proofs.YtlehcaacfgocaaaGreat
namespace Go.Proofs.YtlehcaacfgocaaaGreat
open Go.RowKit
abbrev cmV (i k s t d p q : Int) : Value := .agg #[.int .i64 i, .int .i64 k, .int .i64 s, .int .i64 t, .int .i64 d, .int .i64 p, .int .i64 q]
def oneB (i k s t d p q : Int) : Bool :=
  namedB i && withinB s 3 &&
    (if k = 0 then t == 0 && withinB d 1 && withinB p 1048576 && withinB q 1048576
     else if k = 1 then namedB t && withinB d 0 && withinB p 0 && withinB q 0
     else if k = 2 then namedB t && withinB d 0 && withinB p 0 && withinB q 1048576
     else false)
theorem box_cells {w w1 : World} {xs : Array Value} {T : TypeId} (hb : Below (w.alloc (.cells xs T)).heap.size (w.alloc (.cells xs T)) w1) :
    (∀ o, w1.cell? ⟨w.heap.size, o, none⟩ = xs[o]?) ∧ w.heap.size < w1.heap.size ∧ Below w.heap.size w w1 := by
  have hs := hb.size
  refine ⟨fun o => ?_, by simp at hs; omega, ((Below.refl _ _).alloc (Nat.le_refl _) _).trans (hb.mono (by simp))⟩
  rw [hb.cell (by simp)]
  simp [go_sem]
theorem quietS {P : Program} {f : FuncId} {args : Array Value} {w : World} {n : Nat} {v : Value} (h : Calls P f args (w.drewN n) fun e w' => e = .returned v ∧ w.drewN n = w') : Calls P f args (w.drewN n) fun e w'' => e = .returned v ∧ ∃ m, w'' = w.drewN m :=
  h.mono fun _ _ ⟨he, hm⟩ => ⟨he, n, hm.symm⟩
theorem cWithin_t (x g : Int) (h : withinB x g = true) (w : World) : Calls Tryz.prog 140 #[.int .i64 x, .int .i64 g] w fun e w' => e = .returned (.bool true) ∧ w = w' := h ▸ cWithin x g w
theorem cWithin_f (x g : Int) (h : withinB x g = false) (w : World) : Calls Tryz.prog 140 #[.int .i64 x, .int .i64 g] w fun e w' => e = .returned (.bool false) ∧ w = w' := h ▸ cWithin x g w
theorem Below.drewN' {B : Nat} {a w : World} (h : Below B a w) (n : Nat) : Below B a (w.drewN n) := ⟨h.os, h.tape, h.output, h.size, h.block⟩
set_option maxRecDepth 100000 in
theorem cMayBe_no (i k s t d p q : Int) (h0 : k ≠ 0) (h1 : k ≠ 1) (h2 : k ≠ 2) (w : World) : Calls Tryz.prog 107 #[cmV i k s t d p q] w fun e w' => e = .returned (.bool false) ∧ Below w.heap.size w w' := by
  go_enter Tryz.func107, Tryz.ntmps107
  go_wp2_with (first | (go_at_call 138; refine (cParts_no _ h0 h1 h2 _).mono ?_; rintro e w1 ⟨rfl, hb⟩; obtain ⟨hc, hz, hB⟩ := box_cells hb; clear hb) | (go_at_call 139; refine (cIsName _ _).mono ?_; rintro e w' ⟨rfl, rfl⟩) | (go_at_call 140; refine (cWithin _ _ _).mono ?_; rintro e w' ⟨rfl, rfl⟩))
  go_ret
  exact ⟨rfl, hB.alloc (by omega) _⟩
set_option maxRecDepth 100000 in
theorem cMayBe0_name (i s t d p q : Int) (hn : namedB i = false) (w : World) : Calls Tryz.prog 107 #[cmV i 0 s t d p q] w fun e w' => e = .returned (.bool false) ∧ Below w.heap.size w w' := by
  go_enter Tryz.func107, Tryz.ntmps107
  go_wp2_with (first | (go_at_call 138; refine (cParts0 _).mono ?_; rintro e w1 ⟨rfl, hb⟩; obtain ⟨hc, hz, hB⟩ := box_cells hb; clear hb) | (go_at_call 139; refine (cIsName _ _).mono ?_; rintro e w' ⟨rfl, rfl⟩) | (go_at_call 140; refine (cWithin _ _ _).mono ?_; rintro e w' ⟨rfl, rfl⟩))
  go_ret
  exact ⟨rfl, hB.alloc (by omega) _⟩
set_option maxRecDepth 100000 in
theorem cMayBe0_sym (i s t d p q : Int) (hn : namedB i = true) (hs : withinB s 3 = false) (w : World) : Calls Tryz.prog 107 #[cmV i 0 s t d p q] w fun e w' => e = .returned (.bool false) ∧ Below w.heap.size w w' := by
  go_enter Tryz.func107, Tryz.ntmps107
  go_wp2_with (first | (go_at_call 138; refine (cParts0 _).mono ?_; rintro e w1 ⟨rfl, hb⟩; obtain ⟨hc, hz, hB⟩ := box_cells hb; clear hb) | (go_at_call 139; refine (cIsName _ _).mono ?_; rintro e w' ⟨rfl, rfl⟩) | (go_at_call 140; refine (cWithin _ _ _).mono ?_; rintro e w' ⟨rfl, rfl⟩))
  go_ret
  exact ⟨rfl, hB.alloc (by omega) _⟩
set_option maxRecDepth 100000 in
theorem cMayBe0_tgt (i s t d p q : Int) (hn : namedB i = true) (hs : withinB s 3 = true) (ht : t ≠ 0) (w : World) : Calls Tryz.prog 107 #[cmV i 0 s t d p q] w fun e w' => e = .returned (.bool false) ∧ Below w.heap.size w w' := by
  go_enter Tryz.func107, Tryz.ntmps107
  go_wp2_with (first | (go_at_call 138; refine (cParts0 _).mono ?_; rintro e w1 ⟨rfl, hb⟩; obtain ⟨hc, hz, hB⟩ := box_cells hb; clear hb) | (go_at_call 139; refine (cIsName _ _).mono ?_; rintro e w' ⟨rfl, rfl⟩) | (go_at_call 140; refine (cWithin _ _ _).mono ?_; rintro e w' ⟨rfl, rfl⟩))
  go_ret
  exact ⟨rfl, hB.alloc (by omega) _⟩
set_option maxRecDepth 100000 in
theorem cMayBe0_side (i s d p q : Int) (hn : namedB i = true) (hs : withinB s 3 = true) (hd : withinB d 1 = false) (w : World) : Calls Tryz.prog 107 #[cmV i 0 s 0 d p q] w fun e w' => e = .returned (.bool false) ∧ Below w.heap.size w w' := by
  go_enter Tryz.func107, Tryz.ntmps107
  go_wp2_with (first | (go_at_call 138; refine (cParts0 _).mono ?_; rintro e w1 ⟨rfl, hb⟩; obtain ⟨hc, hz, hB⟩ := box_cells hb; clear hb) | (go_at_call 139; refine (cIsName _ _).mono ?_; rintro e w' ⟨rfl, rfl⟩) | (go_at_call 140; refine (cWithin _ _ _).mono ?_; rintro e w' ⟨rfl, rfl⟩))
  go_quiet ((first | (go_at_call 140; with_reducible exact quietS (cWithin_t _ _ (by assumption) _)) | (go_at_call 140; with_reducible exact quietS (cWithin_f _ _ (by assumption) _)) | (go_at_call 140; with_reducible exact quietS (cWithin _ _ _)) | (go_at_call 141; with_reducible exact quietS (cMost_yes _ _)) | (go_at_call 141; with_reducible exact quietS (cMost_no _ _))))
  go_wp2
  go_ret
  exact ⟨rfl, Below.drewN' (hB.alloc (by omega) _) _⟩
set_option maxRecDepth 100000 in
theorem cMayBe0_price (i s d p q : Int) (hn : namedB i = true) (hs : withinB s 3 = true) (hd : withinB d 1 = true) (hp : withinB p 1048576 = false) (w : World) : Calls Tryz.prog 107 #[cmV i 0 s 0 d p q] w fun e w' => e = .returned (.bool false) ∧ Below w.heap.size w w' := by
  go_enter Tryz.func107, Tryz.ntmps107
  go_wp2_with (first | (go_at_call 138; refine (cParts0 _).mono ?_; rintro e w1 ⟨rfl, hb⟩; obtain ⟨hc, hz, hB⟩ := box_cells hb; clear hb) | (go_at_call 139; refine (cIsName _ _).mono ?_; rintro e w' ⟨rfl, rfl⟩) | (go_at_call 140; refine (cWithin _ _ _).mono ?_; rintro e w' ⟨rfl, rfl⟩))
  go_quiet ((first | (go_at_call 140; with_reducible exact quietS (cWithin_t _ _ (by assumption) _)) | (go_at_call 140; with_reducible exact quietS (cWithin_f _ _ (by assumption) _)) | (go_at_call 140; with_reducible exact quietS (cWithin _ _ _)) | (go_at_call 141; with_reducible exact quietS (cMost_yes _ _)) | (go_at_call 141; with_reducible exact quietS (cMost_no _ _))))
  go_wp2
  go_ret
  exact ⟨rfl, Below.drewN' (hB.alloc (by omega) _) _⟩
set_option maxRecDepth 100000 in
theorem cMayBe0_qty (i s d p q : Int) (hn : namedB i = true) (hs : withinB s 3 = true) (hd : withinB d 1 = true) (hp : withinB p 1048576 = true) (w : World) : Calls Tryz.prog 107 #[cmV i 0 s 0 d p q] w fun e w' => e = .returned (.bool (withinB q 1048576)) ∧ Below w.heap.size w w' := by
  go_enter Tryz.func107, Tryz.ntmps107
  go_wp2_with (first | (go_at_call 138; refine (cParts0 _).mono ?_; rintro e w1 ⟨rfl, hb⟩; obtain ⟨hc, hz, hB⟩ := box_cells hb; clear hb) | (go_at_call 139; refine (cIsName _ _).mono ?_; rintro e w' ⟨rfl, rfl⟩) | (go_at_call 140; refine (cWithin _ _ _).mono ?_; rintro e w' ⟨rfl, rfl⟩))
  go_quiet ((first | (go_at_call 140; with_reducible exact quietS (cWithin_t _ _ (by assumption) _)) | (go_at_call 140; with_reducible exact quietS (cWithin_f _ _ (by assumption) _)) | (go_at_call 140; with_reducible exact quietS (cWithin _ _ _)) | (go_at_call 141; with_reducible exact quietS (cMost_yes _ _)) | (go_at_call 141; with_reducible exact quietS (cMost_no _ _))))
  go_wp2
  go_ret
  exact ⟨rfl, Below.drewN' (hB.alloc (by omega) _) _⟩
set_option maxRecDepth 100000 in
theorem cMayBe1_name (i s t d p q : Int) (hn : namedB i = false) (w : World) : Calls Tryz.prog 107 #[cmV i 1 s t d p q] w fun e w' => e = .returned (.bool false) ∧ Below w.heap.size w w' := by
  go_enter Tryz.func107, Tryz.ntmps107
  go_wp2_with (first | (go_at_call 138; refine (cParts1 _).mono ?_; rintro e w1 ⟨rfl, hb⟩; obtain ⟨hc, hz, hB⟩ := box_cells hb; clear hb) | (go_at_call 139; refine (cIsName _ _).mono ?_; rintro e w' ⟨rfl, rfl⟩) | (go_at_call 140; refine (cWithin _ _ _).mono ?_; rintro e w' ⟨rfl, rfl⟩))
  go_ret
  exact ⟨rfl, hB.alloc (by omega) _⟩
set_option maxRecDepth 100000 in
theorem cMayBe1_sym (i s t d p q : Int) (hn : namedB i = true) (hs : withinB s 3 = false) (w : World) : Calls Tryz.prog 107 #[cmV i 1 s t d p q] w fun e w' => e = .returned (.bool false) ∧ Below w.heap.size w w' := by
  go_enter Tryz.func107, Tryz.ntmps107
  go_wp2_with (first | (go_at_call 138; refine (cParts1 _).mono ?_; rintro e w1 ⟨rfl, hb⟩; obtain ⟨hc, hz, hB⟩ := box_cells hb; clear hb) | (go_at_call 139; refine (cIsName _ _).mono ?_; rintro e w' ⟨rfl, rfl⟩) | (go_at_call 140; refine (cWithin _ _ _).mono ?_; rintro e w' ⟨rfl, rfl⟩))
  go_ret
  exact ⟨rfl, hB.alloc (by omega) _⟩
set_option maxRecDepth 100000 in
theorem cMayBe1_tgt (i s t d p q : Int) (hn : namedB i = true) (hs : withinB s 3 = true) (ht : namedB t = false) (w : World) : Calls Tryz.prog 107 #[cmV i 1 s t d p q] w fun e w' => e = .returned (.bool false) ∧ Below w.heap.size w w' := by
  go_enter Tryz.func107, Tryz.ntmps107
  go_wp2_with (first | (go_at_call 138; refine (cParts1 _).mono ?_; rintro e w1 ⟨rfl, hb⟩; obtain ⟨hc, hz, hB⟩ := box_cells hb; clear hb) | (go_at_call 139; refine (cIsName _ _).mono ?_; rintro e w' ⟨rfl, rfl⟩) | (go_at_call 140; refine (cWithin _ _ _).mono ?_; rintro e w' ⟨rfl, rfl⟩))
  go_ret
  exact ⟨rfl, hB.alloc (by omega) _⟩
set_option maxRecDepth 100000 in
theorem cMayBe1_side (i s t d p q : Int) (hn : namedB i = true) (hs : withinB s 3 = true) (ht : namedB t = true) (hd : withinB d 0 = false) (w : World) : Calls Tryz.prog 107 #[cmV i 1 s t d p q] w fun e w' => e = .returned (.bool false) ∧ Below w.heap.size w w' := by
  go_enter Tryz.func107, Tryz.ntmps107
  go_wp2_with (first | (go_at_call 138; refine (cParts1 _).mono ?_; rintro e w1 ⟨rfl, hb⟩; obtain ⟨hc, hz, hB⟩ := box_cells hb; clear hb) | (go_at_call 139; refine (cIsName _ _).mono ?_; rintro e w' ⟨rfl, rfl⟩) | (go_at_call 140; refine (cWithin _ _ _).mono ?_; rintro e w' ⟨rfl, rfl⟩))
  go_quiet ((first | (go_at_call 140; with_reducible exact quietS (cWithin_t _ _ (by assumption) _)) | (go_at_call 140; with_reducible exact quietS (cWithin_f _ _ (by assumption) _)) | (go_at_call 140; with_reducible exact quietS (cWithin _ _ _)) | (go_at_call 141; with_reducible exact quietS (cMost_yes _ _)) | (go_at_call 141; with_reducible exact quietS (cMost_no _ _))))
  go_wp2
  go_ret
  exact ⟨rfl, Below.drewN' (hB.alloc (by omega) _) _⟩
set_option maxRecDepth 100000 in
theorem cMayBe1_price (i s t d p q : Int) (hn : namedB i = true) (hs : withinB s 3 = true) (ht : namedB t = true) (hd : withinB d 0 = true) (hp : withinB p 0 = false) (w : World) : Calls Tryz.prog 107 #[cmV i 1 s t d p q] w fun e w' => e = .returned (.bool false) ∧ Below w.heap.size w w' := by
  go_enter Tryz.func107, Tryz.ntmps107
  go_wp2_with (first | (go_at_call 138; refine (cParts1 _).mono ?_; rintro e w1 ⟨rfl, hb⟩; obtain ⟨hc, hz, hB⟩ := box_cells hb; clear hb) | (go_at_call 139; refine (cIsName _ _).mono ?_; rintro e w' ⟨rfl, rfl⟩) | (go_at_call 140; refine (cWithin _ _ _).mono ?_; rintro e w' ⟨rfl, rfl⟩))
  go_quiet ((first | (go_at_call 140; with_reducible exact quietS (cWithin_t _ _ (by assumption) _)) | (go_at_call 140; with_reducible exact quietS (cWithin_f _ _ (by assumption) _)) | (go_at_call 140; with_reducible exact quietS (cWithin _ _ _)) | (go_at_call 141; with_reducible exact quietS (cMost_yes _ _)) | (go_at_call 141; with_reducible exact quietS (cMost_no _ _))))
  go_wp2
  go_ret
  exact ⟨rfl, Below.drewN' (hB.alloc (by omega) _) _⟩
set_option maxRecDepth 100000 in
theorem cMayBe1_qty (i s t d p q : Int) (hn : namedB i = true) (hs : withinB s 3 = true) (ht : namedB t = true) (hd : withinB d 0 = true) (hp : withinB p 0 = true) (w : World) : Calls Tryz.prog 107 #[cmV i 1 s t d p q] w fun e w' => e = .returned (.bool (withinB q 0)) ∧ Below w.heap.size w w' := by
  go_enter Tryz.func107, Tryz.ntmps107
  go_wp2_with (first | (go_at_call 138; refine (cParts1 _).mono ?_; rintro e w1 ⟨rfl, hb⟩; obtain ⟨hc, hz, hB⟩ := box_cells hb; clear hb) | (go_at_call 139; refine (cIsName _ _).mono ?_; rintro e w' ⟨rfl, rfl⟩) | (go_at_call 140; refine (cWithin _ _ _).mono ?_; rintro e w' ⟨rfl, rfl⟩))
  go_quiet ((first | (go_at_call 140; with_reducible exact quietS (cWithin_t _ _ (by assumption) _)) | (go_at_call 140; with_reducible exact quietS (cWithin_f _ _ (by assumption) _)) | (go_at_call 140; with_reducible exact quietS (cWithin _ _ _)) | (go_at_call 141; with_reducible exact quietS (cMost_yes _ _)) | (go_at_call 141; with_reducible exact quietS (cMost_no _ _))))
  go_wp2
  go_ret
  exact ⟨rfl, Below.drewN' (hB.alloc (by omega) _) _⟩
set_option maxRecDepth 100000 in
theorem cMayBe2_name (i s t d p q : Int) (hn : namedB i = false) (w : World) : Calls Tryz.prog 107 #[cmV i 2 s t d p q] w fun e w' => e = .returned (.bool false) ∧ Below w.heap.size w w' := by
  go_enter Tryz.func107, Tryz.ntmps107
  go_wp2_with (first | (go_at_call 138; refine (cParts2 _).mono ?_; rintro e w1 ⟨rfl, hb⟩; obtain ⟨hc, hz, hB⟩ := box_cells hb; clear hb) | (go_at_call 139; refine (cIsName _ _).mono ?_; rintro e w' ⟨rfl, rfl⟩) | (go_at_call 140; refine (cWithin _ _ _).mono ?_; rintro e w' ⟨rfl, rfl⟩))
  go_ret
  exact ⟨rfl, hB.alloc (by omega) _⟩
set_option maxRecDepth 100000 in
theorem cMayBe2_sym (i s t d p q : Int) (hn : namedB i = true) (hs : withinB s 3 = false) (w : World) : Calls Tryz.prog 107 #[cmV i 2 s t d p q] w fun e w' => e = .returned (.bool false) ∧ Below w.heap.size w w' := by
  go_enter Tryz.func107, Tryz.ntmps107
  go_wp2_with (first | (go_at_call 138; refine (cParts2 _).mono ?_; rintro e w1 ⟨rfl, hb⟩; obtain ⟨hc, hz, hB⟩ := box_cells hb; clear hb) | (go_at_call 139; refine (cIsName _ _).mono ?_; rintro e w' ⟨rfl, rfl⟩) | (go_at_call 140; refine (cWithin _ _ _).mono ?_; rintro e w' ⟨rfl, rfl⟩))
  go_ret
  exact ⟨rfl, hB.alloc (by omega) _⟩
set_option maxRecDepth 100000 in
theorem cMayBe2_tgt (i s t d p q : Int) (hn : namedB i = true) (hs : withinB s 3 = true) (ht : namedB t = false) (w : World) : Calls Tryz.prog 107 #[cmV i 2 s t d p q] w fun e w' => e = .returned (.bool false) ∧ Below w.heap.size w w' := by
  go_enter Tryz.func107, Tryz.ntmps107
  go_wp2_with (first | (go_at_call 138; refine (cParts2 _).mono ?_; rintro e w1 ⟨rfl, hb⟩; obtain ⟨hc, hz, hB⟩ := box_cells hb; clear hb) | (go_at_call 139; refine (cIsName _ _).mono ?_; rintro e w' ⟨rfl, rfl⟩) | (go_at_call 140; refine (cWithin _ _ _).mono ?_; rintro e w' ⟨rfl, rfl⟩))
  go_ret
  exact ⟨rfl, hB.alloc (by omega) _⟩
set_option maxRecDepth 100000 in
theorem cMayBe2_side (i s t d p q : Int) (hn : namedB i = true) (hs : withinB s 3 = true) (ht : namedB t = true) (hd : withinB d 0 = false) (w : World) : Calls Tryz.prog 107 #[cmV i 2 s t d p q] w fun e w' => e = .returned (.bool false) ∧ Below w.heap.size w w' := by
  go_enter Tryz.func107, Tryz.ntmps107
  go_wp2_with (first | (go_at_call 138; refine (cParts2 _).mono ?_; rintro e w1 ⟨rfl, hb⟩; obtain ⟨hc, hz, hB⟩ := box_cells hb; clear hb) | (go_at_call 139; refine (cIsName _ _).mono ?_; rintro e w' ⟨rfl, rfl⟩) | (go_at_call 140; refine (cWithin _ _ _).mono ?_; rintro e w' ⟨rfl, rfl⟩))
  go_quiet ((first | (go_at_call 140; with_reducible exact quietS (cWithin_t _ _ (by assumption) _)) | (go_at_call 140; with_reducible exact quietS (cWithin_f _ _ (by assumption) _)) | (go_at_call 140; with_reducible exact quietS (cWithin _ _ _)) | (go_at_call 141; with_reducible exact quietS (cMost_yes _ _)) | (go_at_call 141; with_reducible exact quietS (cMost_no _ _))))
  go_wp2
  go_ret
  exact ⟨rfl, Below.drewN' (hB.alloc (by omega) _) _⟩
set_option maxRecDepth 100000 in
theorem cMayBe2_price (i s t d p q : Int) (hn : namedB i = true) (hs : withinB s 3 = true) (ht : namedB t = true) (hd : withinB d 0 = true) (hp : withinB p 0 = false) (w : World) : Calls Tryz.prog 107 #[cmV i 2 s t d p q] w fun e w' => e = .returned (.bool false) ∧ Below w.heap.size w w' := by
  go_enter Tryz.func107, Tryz.ntmps107
  go_wp2_with (first | (go_at_call 138; refine (cParts2 _).mono ?_; rintro e w1 ⟨rfl, hb⟩; obtain ⟨hc, hz, hB⟩ := box_cells hb; clear hb) | (go_at_call 139; refine (cIsName _ _).mono ?_; rintro e w' ⟨rfl, rfl⟩) | (go_at_call 140; refine (cWithin _ _ _).mono ?_; rintro e w' ⟨rfl, rfl⟩))
  go_quiet ((first | (go_at_call 140; with_reducible exact quietS (cWithin_t _ _ (by assumption) _)) | (go_at_call 140; with_reducible exact quietS (cWithin_f _ _ (by assumption) _)) | (go_at_call 140; with_reducible exact quietS (cWithin _ _ _)) | (go_at_call 141; with_reducible exact quietS (cMost_yes _ _)) | (go_at_call 141; with_reducible exact quietS (cMost_no _ _))))
  go_wp2
  go_ret
  exact ⟨rfl, Below.drewN' (hB.alloc (by omega) _) _⟩
set_option maxRecDepth 100000 in
theorem cMayBe2_qty (i s t d p q : Int) (hn : namedB i = true) (hs : withinB s 3 = true) (ht : namedB t = true) (hd : withinB d 0 = true) (hp : withinB p 0 = true) (w : World) : Calls Tryz.prog 107 #[cmV i 2 s t d p q] w fun e w' => e = .returned (.bool (withinB q 1048576)) ∧ Below w.heap.size w w' := by
  go_enter Tryz.func107, Tryz.ntmps107
  go_wp2_with (first | (go_at_call 138; refine (cParts2 _).mono ?_; rintro e w1 ⟨rfl, hb⟩; obtain ⟨hc, hz, hB⟩ := box_cells hb; clear hb) | (go_at_call 139; refine (cIsName _ _).mono ?_; rintro e w' ⟨rfl, rfl⟩) | (go_at_call 140; refine (cWithin _ _ _).mono ?_; rintro e w' ⟨rfl, rfl⟩))
  go_quiet ((first | (go_at_call 140; with_reducible exact quietS (cWithin_t _ _ (by assumption) _)) | (go_at_call 140; with_reducible exact quietS (cWithin_f _ _ (by assumption) _)) | (go_at_call 140; with_reducible exact quietS (cWithin _ _ _)) | (go_at_call 141; with_reducible exact quietS (cMost_yes _ _)) | (go_at_call 141; with_reducible exact quietS (cMost_no _ _))))
  go_wp2
  go_ret
  exact ⟨rfl, Below.drewN' (hB.alloc (by omega) _) _⟩
theorem cMayBe (i k s t d p q : Int) (w : World) : Calls Tryz.prog 107 #[cmV i k s t d p q] w fun e w' => e = .returned (.bool (oneB i k s t d p q)) ∧ Below w.heap.size w w' := by
  by_cases k0 : k = 0
  · subst k0
    rcases hn : namedB i with _ | _
    · simpa [oneB, hn] using cMayBe0_name i s t d p q hn w
    rcases hs : withinB s 3 with _ | _
    · simpa [oneB, hn, hs] using cMayBe0_sym i s t d p q hn hs w
    by_cases ht : t = 0
    · subst ht
      rcases hd : withinB d 1 with _ | _
      · simpa [oneB, hn, hs, hd] using cMayBe0_side i s d p q hn hs hd w
      rcases hp : withinB p 1048576 with _ | _
      · simpa [oneB, hn, hs, hd, hp] using cMayBe0_price i s d p q hn hs hd hp w
      · simpa [oneB, hn, hs, hd, hp] using cMayBe0_qty i s d p q hn hs hd hp w
    · simpa [oneB, hn, hs, ht, beq_false_of_ne ht] using cMayBe0_tgt i s t d p q hn hs ht w
  by_cases k1 : k = 1
  · subst k1
    rcases hn : namedB i with _ | _
    · simpa [oneB, hn] using cMayBe1_name i s t d p q hn w
    rcases hs : withinB s 3 with _ | _
    · simpa [oneB, hn, hs] using cMayBe1_sym i s t d p q hn hs w
    rcases ht : namedB t with _ | _
    · simpa [oneB, hn, hs, ht] using cMayBe1_tgt i s t d p q hn hs ht w
    rcases hd : withinB d 0 with _ | _
    · simpa [oneB, hn, hs, ht, hd] using cMayBe1_side i s t d p q hn hs ht hd w
    rcases hp : withinB p 0 with _ | _
    · simpa [oneB, hn, hs, ht, hd, hp] using cMayBe1_price i s t d p q hn hs ht hd hp w
    · simpa [oneB, hn, hs, ht, hd, hp] using cMayBe1_qty i s t d p q hn hs ht hd hp w
  by_cases k2 : k = 2
  · subst k2
    rcases hn : namedB i with _ | _
    · simpa [oneB, hn] using cMayBe2_name i s t d p q hn w
    rcases hs : withinB s 3 with _ | _
    · simpa [oneB, hn, hs] using cMayBe2_sym i s t d p q hn hs w
    rcases ht : namedB t with _ | _
    · simpa [oneB, hn, hs, ht] using cMayBe2_tgt i s t d p q hn hs ht w
    rcases hd : withinB d 0 with _ | _
    · simpa [oneB, hn, hs, ht, hd] using cMayBe2_side i s t d p q hn hs ht hd w
    rcases hp : withinB p 0 with _ | _
    · simpa [oneB, hn, hs, ht, hd, hp] using cMayBe2_price i s t d p q hn hs ht hd hp w
    · simpa [oneB, hn, hs, ht, hd, hp] using cMayBe2_qty i s t d p q hn hs ht hd hp w
  · simpa [oneB, k0, k1, k2] using cMayBe_no i k s t d p q k0 k1 k2 w
end Go.Proofs.YtlehcaacfgocaaaGreat
namespace Go.Proofs.YtlehcaacfgocaaaGreat
open Go.RowKit
end Go.Proofs.YtlehcaacfgocaaaGreat
namespace Go.Proofs.YtlehcaacfgocaaaGreat
open Go.RowKit
open Go.Lib (hid)
structure C7 where
  i : Int
  k : Int
  s : Int
  t : Int
  d : Int
  p : Int
  q : Int
abbrev C7.cells (c : C7) : List Value := [.int .i64 c.i, .int .i64 c.k, .int .i64 c.s, .int .i64 c.t, .int .i64 c.d, .int .i64 c.p, .int .i64 c.q]
def C7.ok (c : C7) : Bool := oneB c.i c.k c.s c.t c.d c.p c.q
def CmsAt (w : World) (b o : Nat) (cs : List C7) : Prop :=
  ∀ (j : Nat) c, cs[j]? = some c → ∀ (f : Nat) v, c.cells[f]? = some v → w.cell? ⟨b, o + (j * 7 + f), none⟩ = some v
theorem CmsAt.on {w w' : World} {b o B : Nat} {cs : List C7} (h : CmsAt w b o cs) (hb : Below B w w') (hB : b < B) : CmsAt w' b o cs := fun j c hc f v hv => by
  rw [hb.cell (p := ⟨b, o + (j * 7 + f), none⟩) hB]; exact h j c hc f v hv
theorem CmsAt.at {w : World} {b o : Nat} {cs : List C7} (h : CmsAt w b o cs) {j : Nat} {c : C7} (hc : cs[j]? = some c) :
    w.cell? ⟨b, o + j * 7, none⟩ = some (.int .i64 c.i) ∧ w.cell? ⟨b, o + j * 7 + 1, none⟩ = some (.int .i64 c.k) ∧ w.cell? ⟨b, o + j * 7 + 2, none⟩ = some (.int .i64 c.s) ∧ w.cell? ⟨b, o + j * 7 + 3, none⟩ = some (.int .i64 c.t) ∧
    w.cell? ⟨b, o + j * 7 + 4, none⟩ = some (.int .i64 c.d) ∧ w.cell? ⟨b, o + j * 7 + 5, none⟩ = some (.int .i64 c.p) ∧ w.cell? ⟨b, o + j * 7 + 6, none⟩ = some (.int .i64 c.q) :=
  ⟨h j c hc 0 _ rfl, h j c hc 1 _ rfl, h j c hc 2 _ rfl, h j c hc 3 _ rfl, h j c hc 4 _ rfl, h j c hc 5 _ rfl, h j c hc 6 _ rfl⟩
theorem ok_next {cs : List C7} {k : Nat} {c : C7} (h : (cs.take k).all C7.ok = true) (hc : cs[k]? = some c) (h2 : c.ok = true) : (cs.take (k + 1)).all C7.ok = true := by
  rw [List.take_add_one, hc]; simp only [Option.toList_some, List.all_append, h, List.all_cons, h2, List.all_nil]; rfl
theorem ok_no {cs : List C7} {k : Nat} {c : C7} (hc : cs[k]? = some c) (h2 : c.ok = false) : cs.all C7.ok = false := by
  rw [List.all_eq_false]
  exact ⟨c, List.mem_of_getElem? hc, by simp [h2]⟩
set_option maxHeartbeats 600000 in
set_option maxRecDepth 100000 in
theorem cRight (b o cap : Nat) (a : Option Addr) (cs : List C7) (ha : 0 < cs.length → a = some ⟨b, o, none⟩) (hl : cs.length ≤ 100000) (w : World) (h : CmsAt w b o cs) (hb : 0 < cs.length → b < w.heap.size) : Calls Tryz.prog 64 #[.slice a cs.length cap] w fun e w' => e = .returned (.bool (cs.all C7.ok)) ∧ Below w.heap.size w w' := by
  go_enter Tryz.func64, Tryz.ntmps64
  go_wp2
  go_loopw [7] (fun i wr => ∃ k : Nat, k ≤ cs.length ∧ i = .int .i64 k ∧ Hid ((cs.take k).all C7.ok = true) ∧ Below w.heap.size w wr) (fun i _ => cs.length - (intOf i).toNat)
  case atStart => exact ⟨0, Nat.zero_le _, rfl, rfl, Below.refl _ _⟩
  case round =>
    obtain ⟨k, hk, rfl, hak, hB⟩ := hrel
    by_cases hlt : k < cs.length
    · obtain rfl := ha (by omega)
      obtain ⟨c, hc⟩ : ∃ c, cs[k]? = some c := ⟨cs[k], List.getElem?_eq_getElem hlt⟩
      have hbw := hb (by omega)
      obtain ⟨c0, c1, c2, c3, c4, c5, c6⟩ := (h.on hB hbw).at hc
      have HC := hid hc
      clear hc
      rcases hm : c.ok with _ | _
      · have hM := fun W => cMayBe c.i c.k c.s c.t c.d c.p c.q W
        rw [show oneB c.i c.k c.s c.t c.d c.p c.q = false from hm] at hM
        have HM := hid hm
        clear hm
        go_wp2_with (go_at_call 107; refine (hM _).mono ?_; rintro e w1 ⟨rfl, hb1⟩)
        go_ret
        exact ⟨ret_bool (ok_no HC.out HM.out).symm, (hB.alloc hB.size _).trans (hb1.mono (by have := hB.size; simp; omega))⟩
      · have hM := fun W => cMayBe c.i c.k c.s c.t c.d c.p c.q W
        rw [show oneB c.i c.k c.s c.t c.d c.p c.q = true from hm] at hM
        have HM := hid hm
        clear hm
        go_wp2_with (go_at_call 107; refine (hM _).mono ?_; rintro e w1 ⟨rfl, hb1⟩)
        go_roundw
        case rel => exact ⟨k + 1, by omega, by go_num, ok_next hak.out HC.out HM.out, (hB.alloc hB.size _).trans (hb1.mono (by have := hB.size; simp; omega))⟩
        case measure => simp [intOf]; omega
    · have HE : Hid (cs.all C7.ok = true) := by
        have := hak.out
        rw [List.take_of_length_le (by omega)] at this
        exact this
      go_wp2
      go_ret
      exact ⟨ret_bool HE.out.symm, hB⟩
end Go.Proofs.YtlehcaacfgocaaaGreat
