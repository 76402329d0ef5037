/-
  No cell of these rows narrows 'for every input' (looked for: loops, veiled, ifaces, maps, wideKeys, modest, calm, conditions, laid).
  DERIVED. THE GIVEN ROWS OF THIS SEAT. 5 by the template 'for every input the law returns true; each argument reads behind the call as it read before'; 0 by the template 'total and deterministic' (their statements: YtjpojlbldimckaaTotals.lean).
  GIVEN WITH THE SEED: the statements are not yours to turn. If you find one false, say at which input.
  Laid BY PROGRAM, IN A SANDBOX (cutbox-rows.mjs): the forced cells as the released guide's own fill.sh prints them over the translation 985bbd09bd444ba5… (all of the seat's roots in one cut). By AI agents, Wed Nov 11 2026. No macro, syntax, notation, axiom, sorry.
-/
import Derived.Test.YtjpojlbldimckaaChecked
import GoSem.Claim
import GoSem.ClaimJoined
import GoSem.ClaimMapViews
import Derived.JoinedTies
import Derived.KernelRfl
namespace Go.Proofs.Ytjpojlbldimckaa
/- THE CELL 'sum', in the pinned program and in every row, IS THE sha256 OF THE DUMP (.gsa) THAT YtjpojlbldimckaaProg.lean LOADS. Nothing in Lean hashes anything: it is a label: what it is worth is what the hold of that sum in a sandbox is worth. -/
noncomputable def Try.pinned : Pinned := { name := "ytjpojlbldimckaa", sum := "985bbd09bd444ba5c319ed0acb9ea35470a1140b6e6e700b3b478d5edc7f57ea", checked := Try.checked }
namespace Rows
def none {H : Type} : Left H := { results := [], args := [] }

/-- 'lictorlaw01.StampQuorums': WHATEVER THE INPUT: true; the input reads as it did. -/
def stampQuorumsSpec : ChangeSpec := { name := "stampQuorums", fn := fun _ => fun
  | [d1, d2] => { results := [.lit (.bool true)], args := [d1, d2] }
  | _ => none }
def stampQuorumsRow : OpenClaim := { program := "ytjpojlbldimckaa", sum := "985bbd09bd444ba5c319ed0acb9ea35470a1140b6e6e700b3b478d5edc7f57ea", func := "lictor/lictorlaw01.StampQuorums", spec := "stampQuorums", apart := false }
def StampQuorumsSaid : Prop := stampQuorumsRow.holds Try.pinned (OpenSpec.ofChange stampQuorumsSpec)

/-- ITS FALSE NEIGHBOUR: 'it returns false'. Refute it at one input. -/
def stampQuorumsWrong : ChangeSpec := { name := "stampQuorums", fn := fun _ => fun
  | [d1, d2] => { results := [.lit (.bool false)], args := [d1, d2] }
  | _ => none }
def StampQuorumsWrongFalsely : Prop := stampQuorumsRow.holds Try.pinned (OpenSpec.ofChange stampQuorumsWrong)

/-- 'lictorlaw01.StampTells': WHATEVER THE INPUT: true; the input reads as it did. -/
def stampTellsSpec : ChangeSpec := { name := "stampTells", fn := fun _ => fun
  | [d1, d2, d3] => { results := [.lit (.bool true)], args := [d1, d2, d3] }
  | _ => none }
def stampTellsRow : OpenClaim := { program := "ytjpojlbldimckaa", sum := "985bbd09bd444ba5c319ed0acb9ea35470a1140b6e6e700b3b478d5edc7f57ea", func := "lictor/lictorlaw01.StampTells", spec := "stampTells", apart := false }
def StampTellsSaid : Prop := stampTellsRow.holds Try.pinned (OpenSpec.ofChange stampTellsSpec)

/-- ITS FALSE NEIGHBOUR: 'it returns false'. Refute it at one input. -/
def stampTellsWrong : ChangeSpec := { name := "stampTells", fn := fun _ => fun
  | [d1, d2, d3] => { results := [.lit (.bool false)], args := [d1, d2, d3] }
  | _ => none }
def StampTellsWrongFalsely : Prop := stampTellsRow.holds Try.pinned (OpenSpec.ofChange stampTellsWrong)

/-- 'lictorlaw01.StampBallots': WHATEVER THE INPUT: true; the input reads as it did. -/
def stampBallotsSpec : ChangeSpec := { name := "stampBallots", fn := fun _ => fun
  | [d1, d2, d3] => { results := [.lit (.bool true)], args := [d1, d2, d3] }
  | _ => none }
def stampBallotsRow : OpenClaim := { program := "ytjpojlbldimckaa", sum := "985bbd09bd444ba5c319ed0acb9ea35470a1140b6e6e700b3b478d5edc7f57ea", func := "lictor/lictorlaw01.StampBallots", spec := "stampBallots", apart := false }
def StampBallotsSaid : Prop := stampBallotsRow.holds Try.pinned (OpenSpec.ofChange stampBallotsSpec)

/-- ITS FALSE NEIGHBOUR: 'it returns false'. Refute it at one input. -/
def stampBallotsWrong : ChangeSpec := { name := "stampBallots", fn := fun _ => fun
  | [d1, d2, d3] => { results := [.lit (.bool false)], args := [d1, d2, d3] }
  | _ => none }
def StampBallotsWrongFalsely : Prop := stampBallotsRow.holds Try.pinned (OpenSpec.ofChange stampBallotsWrong)

/-- 'lictorlaw01.StampMeet': WHATEVER THE INPUT: true; the input reads as it did. -/
def stampMeetSpec : ChangeSpec := { name := "stampMeet", fn := fun _ => fun
  | [d1, d2] => { results := [.lit (.bool true)], args := [d1, d2] }
  | _ => none }
def stampMeetRow : OpenClaim := { program := "ytjpojlbldimckaa", sum := "985bbd09bd444ba5c319ed0acb9ea35470a1140b6e6e700b3b478d5edc7f57ea", func := "lictor/lictorlaw01.StampMeet", spec := "stampMeet", apart := false }
def StampMeetSaid : Prop := stampMeetRow.holds Try.pinned (OpenSpec.ofChange stampMeetSpec)

/-- ITS FALSE NEIGHBOUR: 'it returns false'. Refute it at one input. -/
def stampMeetWrong : ChangeSpec := { name := "stampMeet", fn := fun _ => fun
  | [d1, d2] => { results := [.lit (.bool false)], args := [d1, d2] }
  | _ => none }
def StampMeetWrongFalsely : Prop := stampMeetRow.holds Try.pinned (OpenSpec.ofChange stampMeetWrong)

/-- 'lictorlaw01.StampNew': WHATEVER THE INPUT: true; the input reads as it did. -/
def stampNewSpec : ChangeSpec := { name := "stampNew", fn := fun _ => fun
  | [d1, d2, d3] => { results := [.lit (.bool true)], args := [d1, d2, d3] }
  | _ => none }
def stampNewRow : OpenClaim := { program := "ytjpojlbldimckaa", sum := "985bbd09bd444ba5c319ed0acb9ea35470a1140b6e6e700b3b478d5edc7f57ea", func := "lictor/lictorlaw01.StampNew", spec := "stampNew", apart := false }
def StampNewSaid : Prop := stampNewRow.holds Try.pinned (OpenSpec.ofChange stampNewSpec)

/-- ITS FALSE NEIGHBOUR: 'it returns false'. Refute it at one input. -/
def stampNewWrong : ChangeSpec := { name := "stampNew", fn := fun _ => fun
  | [d1, d2, d3] => { results := [.lit (.bool false)], args := [d1, d2, d3] }
  | _ => none }
def StampNewWrongFalsely : Prop := stampNewRow.holds Try.pinned (OpenSpec.ofChange stampNewWrong)

/- THE SECOND FORM. 'bulk': how many values and letters a reading holds, each counted each time it is reached (what is shared counts as often as it is met; a slice's spare places count too). A statement '..UptoSaid' is the law's where the arguments, and the package variables that the reading takes, are together of bulk at most 1048576: NARROWER than '..Said'. Prove '..Said' where nothing that the law and all that it calls make is longer than what came in: it says more and counts as full. Else prove '..UptoSaid'. A law counts once. -/
mutual
def uptoBulk {H : Type} : DataW H → Nat
  | .lit (.string bytes) => bytes.length + 1
  | .lit _ => 1
  | .nil => 1
  | .ptr d => uptoBulk d + 1
  | .slice elems spare => uptoBulkAll elems + uptoBulkAll spare + 1
  | .agg parts => uptoBulkAll parts + 1
  | .iface _ d => uptoBulk d + 1
  | .map entries => uptoBulkEntries entries + 1
  | .held _ => 1
def uptoBulkAll {H : Type} : List (DataW H) → Nat
  | [] => 0
  | d :: r => uptoBulk d + uptoBulkAll r
def uptoBulkEntries {H : Type} : List (Lit × DataW H) → Nat
  | [] => 0
  | x :: r => uptoBulkEntry x + uptoBulkEntries r
def uptoBulkEntry {H : Type} : Lit × DataW H → Nat
  | (.string bytes, d) => bytes.length + uptoBulk d + 1
  | (_, d) => uptoBulk d + 1
 end
def uptoSmall : (H : Type) → List (DataW H) → Bool := fun _ ds => decide (uptoBulkAll ds ≤ 1048576)
def OpenSpec.upto (s : _root_.Go.ChangeSpec) : _root_.Go.OpenSpec := { _root_.Go.OpenSpec.ofChange s with cond := some uptoSmall }

/-- 'lictorlaw01.StampQuorums', WHERE WHAT IT READS IS OF BULK AT MOST 1048576: true; the input reads as it did. -/
def stampQuorumsUptoRow : OpenClaim := { program := "ytjpojlbldimckaa", sum := "985bbd09bd444ba5c319ed0acb9ea35470a1140b6e6e700b3b478d5edc7f57ea", func := "lictor/lictorlaw01.StampQuorums", spec := "stampQuorums", apart := false, narrowed := true }
def StampQuorumsUptoSaid : Prop := stampQuorumsUptoRow.holds Try.pinned (OpenSpec.upto stampQuorumsSpec)

/-- 'lictorlaw01.StampTells', WHERE WHAT IT READS IS OF BULK AT MOST 1048576: true; the input reads as it did. -/
def stampTellsUptoRow : OpenClaim := { program := "ytjpojlbldimckaa", sum := "985bbd09bd444ba5c319ed0acb9ea35470a1140b6e6e700b3b478d5edc7f57ea", func := "lictor/lictorlaw01.StampTells", spec := "stampTells", apart := false, narrowed := true }
def StampTellsUptoSaid : Prop := stampTellsUptoRow.holds Try.pinned (OpenSpec.upto stampTellsSpec)

/-- 'lictorlaw01.StampBallots', WHERE WHAT IT READS IS OF BULK AT MOST 1048576: true; the input reads as it did. -/
def stampBallotsUptoRow : OpenClaim := { program := "ytjpojlbldimckaa", sum := "985bbd09bd444ba5c319ed0acb9ea35470a1140b6e6e700b3b478d5edc7f57ea", func := "lictor/lictorlaw01.StampBallots", spec := "stampBallots", apart := false, narrowed := true }
def StampBallotsUptoSaid : Prop := stampBallotsUptoRow.holds Try.pinned (OpenSpec.upto stampBallotsSpec)

/-- 'lictorlaw01.StampMeet', WHERE WHAT IT READS IS OF BULK AT MOST 1048576: true; the input reads as it did. -/
def stampMeetUptoRow : OpenClaim := { program := "ytjpojlbldimckaa", sum := "985bbd09bd444ba5c319ed0acb9ea35470a1140b6e6e700b3b478d5edc7f57ea", func := "lictor/lictorlaw01.StampMeet", spec := "stampMeet", apart := false, narrowed := true }
def StampMeetUptoSaid : Prop := stampMeetUptoRow.holds Try.pinned (OpenSpec.upto stampMeetSpec)

/-- 'lictorlaw01.StampNew', WHERE WHAT IT READS IS OF BULK AT MOST 1048576: true; the input reads as it did. -/
def stampNewUptoRow : OpenClaim := { program := "ytjpojlbldimckaa", sum := "985bbd09bd444ba5c319ed0acb9ea35470a1140b6e6e700b3b478d5edc7f57ea", func := "lictor/lictorlaw01.StampNew", spec := "stampNew", apart := false, narrowed := true }
def StampNewUptoSaid : Prop := stampNewUptoRow.holds Try.pinned (OpenSpec.upto stampNewSpec)

end Rows
end Go.Proofs.Ytjpojlbldimckaa
