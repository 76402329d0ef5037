/-
  No cell of these rows narrows 'for every input' (looked for: loops, veiled, ifaces, maps, wideKeys, modest, calm, conditions, laid).
  DERIVED. THE GIVEN ROWS OF THIS SEAT. 3 by the template 'for every input the law returns true; each argument reads behind the call as it read before'; 0 by the template 'total and deterministic' (their statements: YtbcmhnaiabifjaaTotals.lean).
  GIVEN WITH THE SEED: the statements are not yours to turn. If you find one false, say at which input.
  Laid BY PROGRAM, IN A SANDBOX (cutbox-rows.mjs): the forced cells as the released guide's own fill.sh prints them over the translation f54c1509edfedb7a… (all of the seat's roots in one cut). By AI agents, Wed Nov 11 2026. No macro, syntax, notation, axiom, sorry.
-/
import Derived.Test.YtbcmhnaiabifjaaChecked
import GoSem.Claim
import GoSem.ClaimJoined
import GoSem.ClaimMapViews
import Derived.JoinedTies
import Derived.KernelRfl
namespace Go.Proofs.Ytbcmhnaiabifjaa
/- THE CELL 'sum', in the pinned program and in every row, IS THE sha256 OF THE DUMP (.gsa) THAT YtbcmhnaiabifjaaProg.lean LOADS. Nothing in Lean hashes anything: it is a label: what it is worth is what the hold of that sum in a sandbox is worth. -/
noncomputable def Try.pinned : Pinned := { name := "ytbcmhnaiabifjaa", sum := "f54c1509edfedb7a3fd8e94eda443126858b6ad111bbaa6edffec169f1b6fb97", checked := Try.checked }
namespace Rows
def none {H : Type} : Left H := { results := [], args := [] }

/-- 'lictorlaw15.ChooseTells': WHATEVER THE INPUT: true; the input reads as it did. -/
def chooseTellsSpec : ChangeSpec := { name := "chooseTells", fn := fun _ => fun
  | [d1, d2] => { results := [.lit (.bool true)], args := [d1, d2] }
  | _ => none }
def chooseTellsRow : OpenClaim := { program := "ytbcmhnaiabifjaa", sum := "f54c1509edfedb7a3fd8e94eda443126858b6ad111bbaa6edffec169f1b6fb97", func := "lictor/lictorlaw15.ChooseTells", spec := "chooseTells", unfollowed := true, recurses := true, apart := false }
def ChooseTellsSaid : Prop := chooseTellsRow.holds Try.pinned (OpenSpec.ofChange chooseTellsSpec)

/-- ITS FALSE NEIGHBOUR: 'it returns false'. Refute it at one input. -/
def chooseTellsWrong : ChangeSpec := { name := "chooseTells", fn := fun _ => fun
  | [d1, d2] => { results := [.lit (.bool false)], args := [d1, d2] }
  | _ => none }
def ChooseTellsWrongFalsely : Prop := chooseTellsRow.holds Try.pinned (OpenSpec.ofChange chooseTellsWrong)

/-- 'lictorlaw15.ChooseFast': WHATEVER THE INPUT: true; the input reads as it did. -/
def chooseFastSpec : ChangeSpec := { name := "chooseFast", fn := fun _ => fun
  | [d1, d2, d3] => { results := [.lit (.bool true)], args := [d1, d2, d3] }
  | _ => none }
def chooseFastRow : OpenClaim := { program := "ytbcmhnaiabifjaa", sum := "f54c1509edfedb7a3fd8e94eda443126858b6ad111bbaa6edffec169f1b6fb97", func := "lictor/lictorlaw15.ChooseFast", spec := "chooseFast", unfollowed := true, recurses := true, apart := false }
def ChooseFastSaid : Prop := chooseFastRow.holds Try.pinned (OpenSpec.ofChange chooseFastSpec)

/-- ITS FALSE NEIGHBOUR: 'it returns false'. Refute it at one input. -/
def chooseFastWrong : ChangeSpec := { name := "chooseFast", fn := fun _ => fun
  | [d1, d2, d3] => { results := [.lit (.bool false)], args := [d1, d2, d3] }
  | _ => none }
def ChooseFastWrongFalsely : Prop := chooseFastRow.holds Try.pinned (OpenSpec.ofChange chooseFastWrong)

/-- 'lictorlaw15.ChooseBound': WHATEVER THE INPUT: true; the input reads as it did. -/
def chooseBoundSpec : ChangeSpec := { name := "chooseBound", fn := fun _ => fun
  | [d1, d2, d3] => { results := [.lit (.bool true)], args := [d1, d2, d3] }
  | _ => none }
def chooseBoundRow : OpenClaim := { program := "ytbcmhnaiabifjaa", sum := "f54c1509edfedb7a3fd8e94eda443126858b6ad111bbaa6edffec169f1b6fb97", func := "lictor/lictorlaw15.ChooseBound", spec := "chooseBound", unfollowed := true, recurses := true, apart := false }
def ChooseBoundSaid : Prop := chooseBoundRow.holds Try.pinned (OpenSpec.ofChange chooseBoundSpec)

/-- ITS FALSE NEIGHBOUR: 'it returns false'. Refute it at one input. -/
def chooseBoundWrong : ChangeSpec := { name := "chooseBound", fn := fun _ => fun
  | [d1, d2, d3] => { results := [.lit (.bool false)], args := [d1, d2, d3] }
  | _ => none }
def ChooseBoundWrongFalsely : Prop := chooseBoundRow.holds Try.pinned (OpenSpec.ofChange chooseBoundWrong)

/- THE SECOND FORM. 'bulk': how many values and letters a reading holds, each counted each time it is reached (what is shared counts as often as it is met; a slice's spare places count too). A statement '..UptoSaid' is the law's where the arguments, and the package variables that the reading takes, are together of bulk at most 1048576: NARROWER than '..Said'. Prove '..Said' where nothing that the law and all that it calls make is longer than what came in: it says more and counts as full. Else prove '..UptoSaid'. A law counts once. -/
mutual
def uptoBulk {H : Type} : DataW H → Nat
  | .lit (.string bytes) => bytes.length + 1
  | .lit _ => 1
  | .nil => 1
  | .ptr d => uptoBulk d + 1
  | .slice elems spare => uptoBulkAll elems + uptoBulkAll spare + 1
  | .agg parts => uptoBulkAll parts + 1
  | .iface _ d => uptoBulk d + 1
  | .map entries => uptoBulkEntries entries + 1
  | .held _ => 1
def uptoBulkAll {H : Type} : List (DataW H) → Nat
  | [] => 0
  | d :: r => uptoBulk d + uptoBulkAll r
def uptoBulkEntries {H : Type} : List (Lit × DataW H) → Nat
  | [] => 0
  | x :: r => uptoBulkEntry x + uptoBulkEntries r
def uptoBulkEntry {H : Type} : Lit × DataW H → Nat
  | (.string bytes, d) => bytes.length + uptoBulk d + 1
  | (_, d) => uptoBulk d + 1
 end
def uptoSmall : (H : Type) → List (DataW H) → Bool := fun _ ds => decide (uptoBulkAll ds ≤ 1048576)
def OpenSpec.upto (s : _root_.Go.ChangeSpec) : _root_.Go.OpenSpec := { _root_.Go.OpenSpec.ofChange s with cond := some uptoSmall }

/-- 'lictorlaw15.ChooseTells', WHERE WHAT IT READS IS OF BULK AT MOST 1048576: true; the input reads as it did. -/
def chooseTellsUptoRow : OpenClaim := { program := "ytbcmhnaiabifjaa", sum := "f54c1509edfedb7a3fd8e94eda443126858b6ad111bbaa6edffec169f1b6fb97", func := "lictor/lictorlaw15.ChooseTells", spec := "chooseTells", unfollowed := true, recurses := true, apart := false, narrowed := true }
def ChooseTellsUptoSaid : Prop := chooseTellsUptoRow.holds Try.pinned (OpenSpec.upto chooseTellsSpec)

/-- 'lictorlaw15.ChooseFast', WHERE WHAT IT READS IS OF BULK AT MOST 1048576: true; the input reads as it did. -/
def chooseFastUptoRow : OpenClaim := { program := "ytbcmhnaiabifjaa", sum := "f54c1509edfedb7a3fd8e94eda443126858b6ad111bbaa6edffec169f1b6fb97", func := "lictor/lictorlaw15.ChooseFast", spec := "chooseFast", unfollowed := true, recurses := true, apart := false, narrowed := true }
def ChooseFastUptoSaid : Prop := chooseFastUptoRow.holds Try.pinned (OpenSpec.upto chooseFastSpec)

/-- 'lictorlaw15.ChooseBound', WHERE WHAT IT READS IS OF BULK AT MOST 1048576: true; the input reads as it did. -/
def chooseBoundUptoRow : OpenClaim := { program := "ytbcmhnaiabifjaa", sum := "f54c1509edfedb7a3fd8e94eda443126858b6ad111bbaa6edffec169f1b6fb97", func := "lictor/lictorlaw15.ChooseBound", spec := "chooseBound", unfollowed := true, recurses := true, apart := false, narrowed := true }
def ChooseBoundUptoSaid : Prop := chooseBoundUptoRow.holds Try.pinned (OpenSpec.upto chooseBoundSpec)

end Rows
end Go.Proofs.Ytbcmhnaiabifjaa
