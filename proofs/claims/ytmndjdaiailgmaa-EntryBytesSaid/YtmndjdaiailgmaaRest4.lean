/- A region that draws its order: its first four operations come in one order alone, the rest only reads. -/
import Derived.Test.YtmndjdaiailgmaaCAcc
import Derived.Lib.QuietBelow
import Derived.BigQuiet
namespace Go.Proofs.Ytmndjdaiailgmaa
set_option linter.unusedVariables false
open Go.RowKit Go.Sort
open Go.Lib (hid)

theorem wpAny_rest4 {P : Program} {o0 o1 o2 o3 : Oper} {l : List Oper} {w0 : World} {Q : Exit → Act → World → Prop} {fuel : Nat} {listed : Array Bool} {a : Act} (hf : fuel = l.length) (hs : Region.noSelect (o0 :: o1 :: o2 :: o3 :: l).toArray = true)
    (hB : Region.lexFrom .any (o0 :: o1 :: o2 :: o3 :: l).toArray l.length 4 listed = true) (h : wpQuiet P (o0 :: o1 :: o2 :: o3 :: l).toArray (fun w' => ∃ p : Regrown, w' = grow (redrawn w0 p.d) p.os) (fun a' => ∀ w', (∃ p : Regrown, w' = grow (redrawn w0 p.d) p.os) → Q .normal a' w') l a) :
    wpAny P .any (o0 :: o1 :: o2 :: o3 :: l).toArray Q fuel listed a w0 := by
  subst hf
  refine wpAny_of_quiet (C := fun w' => ∃ p : Regrown, w' = grow (redrawn w0 p.d) p.os) (Q := fun a' => ∀ w', (∃ p : Regrown, w' = grow (redrawn w0 p.d) p.os) → Q .normal a' w') (fun _ w' hw' h => h w' hw') _ _ _ _ ⟨⟨w0.drawn, #[]⟩, by rw [grow_empty]; rfl⟩ ?_
  exact wpAnyQ_lex hs l 4 listed a (fun j => by simp [Nat.add_comm 4 j]) hB h
theorem quietB {f : FuncId} {args : Array Value} {w1 : World} {v : Value} (h : ∀ W, Below w1.heap.size w1 W → Calls Try.prog f args W fun e w' => e = .returned v ∧ Below W.heap.size W w') (d : Nat) (os : Array Obj) :
    Calls Try.prog f args (grow (redrawn w1 d) os) fun e w'' => e = .returned v ∧ ∃ p : Regrown, w'' = grow (redrawn w1 p.d) p.os := Calls.regrown_of (h _ (below_regrown w1 d os))
theorem Sl.madeC {W : World} {g : Nat} {c : C7} {T : TypeId} (hg : g = W.heap.size) : Sl (W.alloc (.cells #[.int .i64 c.i, .int .i64 c.k, .int .i64 c.s, .int .i64 c.t, .int .i64 c.d, .int .i64 c.p, .int .i64 c.q] T)) (.slice (Option.some ⟨g, 0, none⟩) 1 1) [c] := by
  subst hg
  refine ⟨W.heap.size, 0, 1, _, rfl, (fun e => by cases e), fun _ => rfl, fun j d hd f v hv => ?_, fun _ => by simp⟩
  cases j with
  | succ j => cases hd
  | zero =>
    cases (show some c = some d from hd)
    rw [Nat.zero_add, Nat.zero_mul, Nat.zero_add, World.cell?_alloc_new]
    match f, hv with
    | 0, hv => exact hv
    | 1, hv => exact hv
    | 2, hv => exact hv
    | 3, hv => exact hv
    | 4, hv => exact hv
    | 5, hv => exact hv
    | 6, hv => exact hv
    | _ + 7, hv => cases hv
end Go.Proofs.Ytmndjdaiailgmaa
