/- Whether two commands, and two lists of them, are the same: the model's comparison of commands; the document's Same, the program's, and has. -/
import Derived.Test.YtmndjdaiailgmaaMem
import Derived.Laws.StructEq
import Derived.Deep.QuietTactic
import Derived.BigQuiet
namespace Go.Proofs.Ytmndjdaiailgmaa
open Go.RowKit
open Go.Lib (hid)

theorem equalC (a b : C7) (w : World) : Sem.run Try.prog (Op.equalIn 10000 25 a.v b.v) w = .ok (a.same b) w := by
  have u3 := Try.underlying3
  have a3 := Try.isAgg3
  have z3 := Try.sizeOf3
  have u31 := Try.underlying22
  have a31 := Try.isAgg22
  have z31 := Try.sizeOf22
  have u32 := Try.underlying23
  have a32 := Try.isAgg23
  have z32 := Try.sizeOf23
  have hS : Try.prog.underlying 25 = some (.struct (Try.prog.fieldsOf 25)) := by kernel_rfl
  have hp : Try.prog.stoodInHeld 25 = false := by kernel_rfl
  simp only [C7.v, cmV]
  rw [show (10000 : Nat) = 9999 + 1 from rfl, run_equalIn_agg w 9999 25 _ _ hS hp]
  simp only [Program.fieldsOf, Try.underlying25]
  go_simp
  unfold C7.same
  by_cases h1 : a.i = b.i
  · by_cases h2 : a.k = b.k
    · by_cases h3 : a.s = b.s
      · by_cases h4 : a.t = b.t
        · by_cases h5 : a.d = b.d
          · by_cases h6 : a.p = b.p
            · by_cases h7 : a.q = b.q
              · simp [h1, h2, h3, h4, h5, h6, h7]
              · simp [h1, h2, h3, h4, h5, h6, h7]
            · simp [h1, h2, h3, h4, h5, h6]
          · simp [h1, h2, h3, h4, h5]
        · simp [h1, h2, h3, h4]
      · simp [h1, h2, h3]
    · simp [h1, h2]
  · simp [h1]

theorem eqlC {a b : C7} {r : Bool} (h : a.same b = r) (w : World) : Sem.run Try.prog (binOp .eql 25 a.v b.v) w = .ok (.bool r) w := by
  rw [C7.v, C7.v, cmV, cmV, run_eql_struct]
  have := equalC a b w
  rw [C7.v, C7.v, cmV, cmV] at this
  rw [this, h]; rfl
theorem neqC {a b : C7} {r : Bool} (h : a.same b = r) (w : World) : Sem.run Try.prog (binOp .neq 25 a.v b.v) w = .ok (.bool (!r)) w := by
  rw [C7.v, C7.v, cmV, cmV, run_neq_struct]
  have := equalC a b w
  rw [C7.v, C7.v, cmV, cmV] at this
  rw [this, h]; rfl
theorem guardC (op : BinOp) (x y : Operand) (a b : C7) (w : World) : Sem.run Try.prog (eqGuard op 25 x y a.v b.v) w = .ok () w := run_eqGuard_agg w op 25 x y _ _ (by kernel_rfl)

/-- The commands from an address on, one of them. -/
theorem Sl.open {w : World} {v : Value} {cs : List C7} (h : Sl w v cs) : ∃ (b o cap : Nat) (a : Option Addr), v = .slice a cs.length cap ∧ (0 < cs.length → a = some ⟨b, o, none⟩) ∧ CmsAt w b o cs ∧ (0 < cs.length → b < w.heap.size) := by
  obtain ⟨b, o, cap, a, hv, _, ha, hc, hb⟩ := h
  exact ⟨b, o, cap, a, hv, ha, hc, hb⟩

def hasB (cs : List C7) (c : C7) : Bool := cs.any fun x => x.same c
theorem has_iff {cs : List C7} {c : C7} : hasB cs c = true ↔ c ∈ cs := by
  unfold hasB
  rw [List.any_eq_true]
  exact ⟨fun ⟨x, hx, h⟩ => C7.same_iff.1 h ▸ hx, fun h => ⟨c, h, C7.same_iff.2 rfl⟩⟩
theorem has_yes {cs : List C7} {k : Nat} {x c : C7} (hx : cs[k]? = some x) (h : x.same c = true) : hasB cs c = true := List.any_eq_true.2 ⟨x, List.mem_of_getElem? hx, h⟩
theorem has_no {cs : List C7} {k : Nat} {c : C7} (hk : cs.length ≤ k) (h : ∀ j, j < k → ∀ x, cs[j]? = some x → x.same c = false) : hasB cs c = false := by
  unfold hasB
  rw [List.any_eq_false]
  intro x hx
  obtain ⟨j, hj⟩ := List.getElem?_of_mem hx
  rw [h j (by have := (List.getElem?_eq_some_iff.1 hj).1; omega) x hj]; simp
theorem unlike_next {l : List C7} {k : Nat} {P : Nat → C7 → Prop} (h : ∀ j, j < k → ∀ c, l[j]? = some c → P j c) {c : C7} (hc : l[k]? = some c) (hi : P k c) : ∀ j, j < k + 1 → ∀ c, l[j]? = some c → P j c := fun j hj d hd => by
  by_cases e : j = k
  · subst e; rw [hc] at hd; rw [← Option.some.inj hd]; exact hi
  · exact h j (by omega) d hd

end Go.Proofs.Ytmndjdaiailgmaa
