/- The law's step, way by way: what each one leaves. -/
import Derived.Test.YtiloeejpjjdaeaaDTwo
import Derived.Deep.RegionHeld3
import Derived.Deep.Cut
namespace Go.Proofs.Ytiloeejpjjdaeaa
set_option linter.unusedVariables false
open Go.RowKit
open Go.Lib (hid)

def StepPost (w0 w : World) (N p q : Nat) (room : Int) (l b : List UInt8) (e : Ending) (w' : World) : Prop :=
  e = .returned (.bool true) ∧ (∃ l' s', Two w' w0.heap.size w'.heap.size p q room l' s' ∧ l'.length ≤ l.length + b.length) ∧ Chg w0.heap.size N w w'
theorem step_post {w0 w W1 w3 w5 : World} {N p q : Nat} {room : Int} {l b l' : List UInt8} {s' : Nat} (h1 : Below w.heap.size w W1) (hT : Two w3 w0.heap.size w3.heap.size p q room l' s') (hC : Chg w0.heap.size N W1 w3) (hl : l'.length ≤ l.length + b.length) (hb : Below w3.heap.size w3 w5) : StepPost w0 w N p q room l b (.returned (.bool true)) w5 := by
  obtain ⟨v, u, hD, hR, hO, hS, hu, hv, a1, a2, a3, a4, a5, a6⟩ := hT.on hb
  have := hb.size
  exact ⟨rfl, ⟨l', s', ⟨v, u, hD, hR, hO, hS, hu, fun k hk => (hO.lt k hk).2, a1, by omega, a3, by omega, Nat.le_refl _, a6⟩, hl⟩, ((Chg.ofBelow h1).trans hC).trans (Chg.ofBelow hb)⟩
end Go.Proofs.Ytiloeejpjjdaeaa
