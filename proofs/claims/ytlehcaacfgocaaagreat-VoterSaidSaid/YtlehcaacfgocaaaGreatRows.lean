/-
  No cell of these rows narrows 'for every input' (looked for: loops, veiled, ifaces, maps, wideKeys, modest, calm, conditions, laid).
  DERIVED. THE GIVEN ROWS OF THIS SEAT. 3 by the template 'for every input the law returns true; each argument reads behind the call as it read before'; 0 by the template 'total and deterministic' (their statements: YtlehcaacfgocaaaGreatTotals.lean).
  GIVEN WITH THE SEED: the statements are not yours to turn. If you find one false, say at which input.
  Laid BY PROGRAM, IN A SANDBOX (cutbox-rows.mjs): the forced cells as the released guide's own fill.sh prints them over the translation 692186a1eb65bec3… (all of the seat's roots in one cut). By AI agents, Wed Nov 11 2026. No macro, syntax, notation, axiom, sorry.
-/
import Derived.Test.YtlehcaacfgocaaaGreatChecked
import GoSem.Claim
import GoSem.ClaimJoined
import GoSem.ClaimMapViews
import Derived.JoinedTies
import Derived.KernelRfl
namespace Go.Proofs.YtlehcaacfgocaaaGreat
/- THE CELL 'sum', in the pinned program and in every row, IS THE sha256 OF THE DUMP (.gsa) THAT YtlehcaacfgocaaaGreatProg.lean LOADS. Nothing in Lean hashes anything: it is a label: what it is worth is what the hold of that sum in a sandbox is worth. -/
noncomputable def Tryz.pinned : Pinned := { name := "ytlehcaacfgocaaagreat", sum := "692186a1eb65bec353d83dc6483b14fcedae19645dcb18f2b30070374823a4a2", checked := Tryz.checked }
namespace Rows
def none {H : Type} : Left H := { results := [], args := [] }

/-- 'lictorlaw14.VoterPlays': WHATEVER THE INPUT: true; the input reads as it did. -/
def voterPlaysSpec : ChangeSpec := { name := "voterPlays", fn := fun _ => fun
  | [d1, d2, d3] => { results := [.lit (.bool true)], args := [d1, d2, d3] }
  | _ => none }
def voterPlaysRow : OpenClaim := { program := "ytlehcaacfgocaaagreat", sum := "692186a1eb65bec353d83dc6483b14fcedae19645dcb18f2b30070374823a4a2", func := "lictor/lictorlaw14.VoterPlays", spec := "voterPlays", unfollowed := true, recurses := true, apart := false }
def VoterPlaysSaid : Prop := voterPlaysRow.holds Tryz.pinned (OpenSpec.ofChange voterPlaysSpec)

/-- ITS FALSE NEIGHBOUR: 'it returns false'. Refute it at one input. -/
def voterPlaysWrong : ChangeSpec := { name := "voterPlays", fn := fun _ => fun
  | [d1, d2, d3] => { results := [.lit (.bool false)], args := [d1, d2, d3] }
  | _ => none }
def VoterPlaysWrongFalsely : Prop := voterPlaysRow.holds Tryz.pinned (OpenSpec.ofChange voterPlaysWrong)

/-- 'lictorlaw14.VoterSaid': WHATEVER THE INPUT: true; the input reads as it did. -/
def voterSaidSpec : ChangeSpec := { name := "voterSaid", fn := fun _ => fun
  | [d1, d2] => { results := [.lit (.bool true)], args := [d1, d2] }
  | _ => none }
def voterSaidRow : OpenClaim := { program := "ytlehcaacfgocaaagreat", sum := "692186a1eb65bec353d83dc6483b14fcedae19645dcb18f2b30070374823a4a2", func := "lictor/lictorlaw14.VoterSaid", spec := "voterSaid", unfollowed := true, recurses := true, apart := false }
def VoterSaidSaid : Prop := voterSaidRow.holds Tryz.pinned (OpenSpec.ofChange voterSaidSpec)

/-- ITS FALSE NEIGHBOUR: 'it returns false'. Refute it at one input. -/
def voterSaidWrong : ChangeSpec := { name := "voterSaid", fn := fun _ => fun
  | [d1, d2] => { results := [.lit (.bool false)], args := [d1, d2] }
  | _ => none }
def VoterSaidWrongFalsely : Prop := voterSaidRow.holds Tryz.pinned (OpenSpec.ofChange voterSaidWrong)

/-- 'lictorlaw14.VoterKeeps': WHATEVER THE INPUT: true; the input reads as it did. -/
def voterKeepsSpec : ChangeSpec := { name := "voterKeeps", fn := fun _ => fun
  | [d1, d2] => { results := [.lit (.bool true)], args := [d1, d2] }
  | _ => none }
def voterKeepsRow : OpenClaim := { program := "ytlehcaacfgocaaagreat", sum := "692186a1eb65bec353d83dc6483b14fcedae19645dcb18f2b30070374823a4a2", func := "lictor/lictorlaw14.VoterKeeps", spec := "voterKeeps", unfollowed := true, recurses := true, apart := false }
def VoterKeepsSaid : Prop := voterKeepsRow.holds Tryz.pinned (OpenSpec.ofChange voterKeepsSpec)

/-- ITS FALSE NEIGHBOUR: 'it returns false'. Refute it at one input. -/
def voterKeepsWrong : ChangeSpec := { name := "voterKeeps", fn := fun _ => fun
  | [d1, d2] => { results := [.lit (.bool false)], args := [d1, d2] }
  | _ => none }
def VoterKeepsWrongFalsely : Prop := voterKeepsRow.holds Tryz.pinned (OpenSpec.ofChange voterKeepsWrong)

/- THE SECOND FORM. 'bulk': how many values and letters a reading holds, each counted each time it is reached (what is shared counts as often as it is met; a slice's spare places count too). A statement '..UptoSaid' is the law's where the arguments, and the package variables that the reading takes, are together of bulk at most 1048576: NARROWER than '..Said'. Prove '..Said' where nothing that the law and all that it calls make is longer than what came in: it says more and counts as full. Else prove '..UptoSaid'. A law counts once. -/
mutual
def uptoBulk {H : Type} : DataW H → Nat
  | .lit (.string bytes) => bytes.length + 1
  | .lit _ => 1
  | .nil => 1
  | .ptr d => uptoBulk d + 1
  | .slice elems spare => uptoBulkAll elems + uptoBulkAll spare + 1
  | .agg parts => uptoBulkAll parts + 1
  | .iface _ d => uptoBulk d + 1
  | .map entries => uptoBulkEntries entries + 1
  | .held _ => 1
def uptoBulkAll {H : Type} : List (DataW H) → Nat
  | [] => 0
  | d :: r => uptoBulk d + uptoBulkAll r
def uptoBulkEntries {H : Type} : List (Lit × DataW H) → Nat
  | [] => 0
  | x :: r => uptoBulkEntry x + uptoBulkEntries r
def uptoBulkEntry {H : Type} : Lit × DataW H → Nat
  | (.string bytes, d) => bytes.length + uptoBulk d + 1
  | (_, d) => uptoBulk d + 1
 end
def uptoSmall : (H : Type) → List (DataW H) → Bool := fun _ ds => decide (uptoBulkAll ds ≤ 1048576)
def OpenSpec.upto (s : _root_.Go.ChangeSpec) : _root_.Go.OpenSpec := { _root_.Go.OpenSpec.ofChange s with cond := some uptoSmall }

/-- 'lictorlaw14.VoterPlays', WHERE WHAT IT READS IS OF BULK AT MOST 1048576: true; the input reads as it did. -/
def voterPlaysUptoRow : OpenClaim := { program := "ytlehcaacfgocaaagreat", sum := "692186a1eb65bec353d83dc6483b14fcedae19645dcb18f2b30070374823a4a2", func := "lictor/lictorlaw14.VoterPlays", spec := "voterPlays", unfollowed := true, recurses := true, apart := false, narrowed := true }
def VoterPlaysUptoSaid : Prop := voterPlaysUptoRow.holds Tryz.pinned (OpenSpec.upto voterPlaysSpec)

/-- 'lictorlaw14.VoterSaid', WHERE WHAT IT READS IS OF BULK AT MOST 1048576: true; the input reads as it did. -/
def voterSaidUptoRow : OpenClaim := { program := "ytlehcaacfgocaaagreat", sum := "692186a1eb65bec353d83dc6483b14fcedae19645dcb18f2b30070374823a4a2", func := "lictor/lictorlaw14.VoterSaid", spec := "voterSaid", unfollowed := true, recurses := true, apart := false, narrowed := true }
def VoterSaidUptoSaid : Prop := voterSaidUptoRow.holds Tryz.pinned (OpenSpec.upto voterSaidSpec)

/-- 'lictorlaw14.VoterKeeps', WHERE WHAT IT READS IS OF BULK AT MOST 1048576: true; the input reads as it did. -/
def voterKeepsUptoRow : OpenClaim := { program := "ytlehcaacfgocaaagreat", sum := "692186a1eb65bec353d83dc6483b14fcedae19645dcb18f2b30070374823a4a2", func := "lictor/lictorlaw14.VoterKeeps", spec := "voterKeeps", unfollowed := true, recurses := true, apart := false, narrowed := true }
def VoterKeepsUptoSaid : Prop := voterKeepsUptoRow.holds Tryz.pinned (OpenSpec.upto voterKeepsSpec)

end Rows
end Go.Proofs.YtlehcaacfgocaaaGreat
