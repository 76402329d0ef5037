import Derived.Test.YtlehcaacfgocaaaGreatG03
import Derived.Shelf.SlIterI.Collect
import Derived.Maps.OwnIn
import Derived.Lib.SlKeysI
import Derived.RangeFuncGives
import Derived.OwnWalkIn
import Derived.TacticsInMore
import Derived.RegionIn
import Derived.LoopNIn
import Derived.LoopIn
namespace Go.Proofs.YtlehcaacfgocaaaGreat
set_option linter.unusedVariables false
open Go.RowKit Go.Maps Go.Sort
open Go.Lib (hid)
section
variable {F : Fence} {n : Nat}
end
theorem zeroRoom (w : World) : Room (w.alloc zeroEc) w.heap.size 67 := ⟨_, heap_alloc_new w _, rfl⟩
theorem says_at {D : DataW Value} {xs : List En} (h : Says D xs) {i : Int} {c : Ev} (hat : ∀ zd, D.atKey (key i) zd = .held (.agg c.arr)) : ∃ x, lookG En.id xs i = some x ∧ x.e = c ∧ c.c.i = i := by
  have hh := Maps.has_true_of_atKey hat
  rcases hl : lookG En.id xs i with _ | x
  · rw [(h i).2 hl] at hh; cases hh
  · have := ((h i).1 x hl).2 (.held (.agg c.arr))
    rw [hat] at this
    have e : x.e = c := ev_inj (Value.agg.inj (DataW.held.inj this)).symm
    exact ⟨x, rfl, e, by rw [← e]; exact (look_key En.id xs i x hl).1⟩
end Go.Proofs.YtlehcaacfgocaaaGreat
