/-
  No cell of these rows narrows 'for every input' (looked for: loops, veiled, ifaces, maps, wideKeys, modest, calm, conditions, laid).
  DERIVED. THE GIVEN ROWS OF THIS SEAT. 2 by the template 'for every input the law returns true; each argument reads behind the call as it read before'; 0 by the template 'total and deterministic' (their statements: YtdgllpfccdbdnaaTotals.lean).
  GIVEN WITH THE SEED: the statements are not yours to turn. If you find one false, say at which input.
  Laid BY PROGRAM, IN A SANDBOX (cutbox-rows.mjs): the forced cells as the released guide's own fill.sh prints them over the translation 9d93d7723d129ef1… (all of the seat's roots in one cut). By AI agents, Wed Nov 11 2026. No macro, syntax, notation, axiom, sorry.
-/
import Derived.Test.YtdgllpfccdbdnaaChecked
import GoSem.Claim
import GoSem.ClaimJoined
import GoSem.ClaimMapViews
import Derived.JoinedTies
import Derived.KernelRfl
namespace Go.Proofs.Ytdgllpfccdbdnaa
/- THE CELL 'sum', in the pinned program and in every row, IS THE sha256 OF THE DUMP (.gsa) THAT YtdgllpfccdbdnaaProg.lean LOADS. Nothing in Lean hashes anything: it is a label: what it is worth is what the hold of that sum in a sandbox is worth. -/
noncomputable def Try.pinned : Pinned := { name := "ytdgllpfccdbdnaa", sum := "9d93d7723d129ef165573f60e43b78352c9e7c72bbd7018655ebfdb1b1f1050c", checked := Try.checked }
namespace Rows
def none {H : Type} : Left H := { results := [], args := [] }

/-- 'lictorlaw12.MarketPlays': WHATEVER THE INPUT: true; the input reads as it did. -/
def marketPlaysSpec : ChangeSpec := { name := "marketPlays", fn := fun _ => fun
  | [d1, d2] => { results := [.lit (.bool true)], args := [d1, d2] }
  | _ => none }
def marketPlaysRow : OpenClaim := { program := "ytdgllpfccdbdnaa", sum := "9d93d7723d129ef165573f60e43b78352c9e7c72bbd7018655ebfdb1b1f1050c", func := "lictor/lictorlaw12.MarketPlays", spec := "marketPlays", inPlace := ["slices.overlaps[lictor/book.Order]"], unfollowed := true, recurses := true, apart := false }
def MarketPlaysSaid : Prop := marketPlaysRow.holds Try.pinned (OpenSpec.ofChange marketPlaysSpec)

/-- ITS FALSE NEIGHBOUR: 'it returns false'. Refute it at one input. -/
def marketPlaysWrong : ChangeSpec := { name := "marketPlays", fn := fun _ => fun
  | [d1, d2] => { results := [.lit (.bool false)], args := [d1, d2] }
  | _ => none }
def MarketPlaysWrongFalsely : Prop := marketPlaysRow.holds Try.pinned (OpenSpec.ofChange marketPlaysWrong)

/-- 'lictorlaw12.MarketApart': WHATEVER THE INPUT: true; the input reads as it did. -/
def marketApartSpec : ChangeSpec := { name := "marketApart", fn := fun _ => fun
  | [d1, d2] => { results := [.lit (.bool true)], args := [d1, d2] }
  | _ => none }
def marketApartRow : OpenClaim := { program := "ytdgllpfccdbdnaa", sum := "9d93d7723d129ef165573f60e43b78352c9e7c72bbd7018655ebfdb1b1f1050c", func := "lictor/lictorlaw12.MarketApart", spec := "marketApart", inPlace := ["slices.overlaps[lictor/book.Order]"], unfollowed := true, recurses := true, apart := false }
def MarketApartSaid : Prop := marketApartRow.holds Try.pinned (OpenSpec.ofChange marketApartSpec)

/-- ITS FALSE NEIGHBOUR: 'it returns false'. Refute it at one input. -/
def marketApartWrong : ChangeSpec := { name := "marketApart", fn := fun _ => fun
  | [d1, d2] => { results := [.lit (.bool false)], args := [d1, d2] }
  | _ => none }
def MarketApartWrongFalsely : Prop := marketApartRow.holds Try.pinned (OpenSpec.ofChange marketApartWrong)

/- THE SECOND FORM. 'bulk': how many values and letters a reading holds, each counted each time it is reached (what is shared counts as often as it is met; a slice's spare places count too). A statement '..UptoSaid' is the law's where the arguments, and the package variables that the reading takes, are together of bulk at most 1048576: NARROWER than '..Said'. Prove '..Said' where nothing that the law and all that it calls make is longer than what came in: it says more and counts as full. Else prove '..UptoSaid'. A law counts once. -/
mutual
def uptoBulk {H : Type} : DataW H → Nat
  | .lit (.string bytes) => bytes.length + 1
  | .lit _ => 1
  | .nil => 1
  | .ptr d => uptoBulk d + 1
  | .slice elems spare => uptoBulkAll elems + uptoBulkAll spare + 1
  | .agg parts => uptoBulkAll parts + 1
  | .iface _ d => uptoBulk d + 1
  | .map entries => uptoBulkEntries entries + 1
  | .held _ => 1
def uptoBulkAll {H : Type} : List (DataW H) → Nat
  | [] => 0
  | d :: r => uptoBulk d + uptoBulkAll r
def uptoBulkEntries {H : Type} : List (Lit × DataW H) → Nat
  | [] => 0
  | x :: r => uptoBulkEntry x + uptoBulkEntries r
def uptoBulkEntry {H : Type} : Lit × DataW H → Nat
  | (.string bytes, d) => bytes.length + uptoBulk d + 1
  | (_, d) => uptoBulk d + 1
 end
def uptoSmall : (H : Type) → List (DataW H) → Bool := fun _ ds => decide (uptoBulkAll ds ≤ 1048576)
def OpenSpec.upto (s : _root_.Go.ChangeSpec) : _root_.Go.OpenSpec := { _root_.Go.OpenSpec.ofChange s with cond := some uptoSmall }

/-- 'lictorlaw12.MarketPlays', WHERE WHAT IT READS IS OF BULK AT MOST 1048576: true; the input reads as it did. -/
def marketPlaysUptoRow : OpenClaim := { program := "ytdgllpfccdbdnaa", sum := "9d93d7723d129ef165573f60e43b78352c9e7c72bbd7018655ebfdb1b1f1050c", func := "lictor/lictorlaw12.MarketPlays", spec := "marketPlays", inPlace := ["slices.overlaps[lictor/book.Order]"], unfollowed := true, recurses := true, apart := false, narrowed := true }
def MarketPlaysUptoSaid : Prop := marketPlaysUptoRow.holds Try.pinned (OpenSpec.upto marketPlaysSpec)

/-- 'lictorlaw12.MarketApart', WHERE WHAT IT READS IS OF BULK AT MOST 1048576: true; the input reads as it did. -/
def marketApartUptoRow : OpenClaim := { program := "ytdgllpfccdbdnaa", sum := "9d93d7723d129ef165573f60e43b78352c9e7c72bbd7018655ebfdb1b1f1050c", func := "lictor/lictorlaw12.MarketApart", spec := "marketApart", inPlace := ["slices.overlaps[lictor/book.Order]"], unfollowed := true, recurses := true, apart := false, narrowed := true }
def MarketApartUptoSaid : Prop := marketApartUptoRow.holds Try.pinned (OpenSpec.upto marketApartSpec)

end Rows
end Go.Proofs.Ytdgllpfccdbdnaa
