/-
  No cell of these rows narrows 'for every input' (looked for: loops, veiled, ifaces, maps, wideKeys, modest, calm, conditions, laid).
  DERIVED. THE GIVEN ROWS OF THIS SEAT. 3 by the template 'for every input the law returns true; each argument reads behind the call as it read before'; 0 by the template 'total and deterministic' (their statements: YtmabfccieoaalaaTotals.lean).
  GIVEN WITH THE SEED: the statements are not yours to turn. If you find one false, say at which input.
  Laid BY PROGRAM, IN A SANDBOX (cutbox-rows.mjs): the forced cells as the released guide's own fill.sh prints them over the translation f7d9859b98768056… (all of the seat's roots in one cut). By AI agents, Wed Nov 11 2026. No macro, syntax, notation, axiom, sorry.
-/
import Derived.Test.YtmabfccieoaalaaChecked
import GoSem.Claim
import GoSem.ClaimJoined
import GoSem.ClaimMapViews
import Derived.JoinedTies
import Derived.KernelRfl
namespace Go.Proofs.Ytmabfccieoaalaa
/- THE CELL 'sum', in the pinned program and in every row, IS THE sha256 OF THE DUMP (.gsa) THAT YtmabfccieoaalaaProg.lean LOADS. Nothing in Lean hashes anything: it is a label: what it is worth is what the hold of that sum in a sandbox is worth. -/
noncomputable def Try.pinned : Pinned := { name := "ytmabfccieoaalaa", sum := "f7d9859b98768056e596f0319f2fe5742f51e57650eef3a12600dc15e4523a0d", checked := Try.checked }
namespace Rows
def none {H : Type} : Left H := { results := [], args := [] }

/-- 'kedgelaw09.DustLeast': WHATEVER THE INPUT: true; the input reads as it did. -/
def dustLeastSpec : ChangeSpec := { name := "dustLeast", fn := fun _ => fun
  | [d1, d2] => { results := [.lit (.bool true)], args := [d1, d2] }
  | _ => none }
def dustLeastRow : OpenClaim := { program := "ytmabfccieoaalaa", sum := "f7d9859b98768056e596f0319f2fe5742f51e57650eef3a12600dc15e4523a0d", func := "kedge/kedgelaw09.DustLeast", spec := "dustLeast", apart := false }
def DustLeastSaid : Prop := dustLeastRow.holds Try.pinned (OpenSpec.ofChange dustLeastSpec)

/-- ITS FALSE NEIGHBOUR: 'it returns false'. Refute it at one input. -/
def dustLeastWrong : ChangeSpec := { name := "dustLeast", fn := fun _ => fun
  | [d1, d2] => { results := [.lit (.bool false)], args := [d1, d2] }
  | _ => none }
def DustLeastWrongFalsely : Prop := dustLeastRow.holds Try.pinned (OpenSpec.ofChange dustLeastWrong)

/-- 'kedgelaw09.DustEdge': WHATEVER THE INPUT: true; the input reads as it did. -/
def dustEdgeSpec : ChangeSpec := { name := "dustEdge", fn := fun _ => fun
  | [d1, d2] => { results := [.lit (.bool true)], args := [d1, d2] }
  | _ => none }
def dustEdgeRow : OpenClaim := { program := "ytmabfccieoaalaa", sum := "f7d9859b98768056e596f0319f2fe5742f51e57650eef3a12600dc15e4523a0d", func := "kedge/kedgelaw09.DustEdge", spec := "dustEdge", apart := false }
def DustEdgeSaid : Prop := dustEdgeRow.holds Try.pinned (OpenSpec.ofChange dustEdgeSpec)

/-- ITS FALSE NEIGHBOUR: 'it returns false'. Refute it at one input. -/
def dustEdgeWrong : ChangeSpec := { name := "dustEdge", fn := fun _ => fun
  | [d1, d2] => { results := [.lit (.bool false)], args := [d1, d2] }
  | _ => none }
def DustEdgeWrongFalsely : Prop := dustEdgeRow.holds Try.pinned (OpenSpec.ofChange dustEdgeWrong)

/-- 'kedgelaw09.DustTx': WHATEVER THE INPUT: true; the input reads as it did. -/
def dustTxSpec : ChangeSpec := { name := "dustTx", fn := fun _ => fun
  | [d] => { results := [.lit (.bool true)], args := [d] }
  | _ => none }
def dustTxRow : OpenClaim := { program := "ytmabfccieoaalaa", sum := "f7d9859b98768056e596f0319f2fe5742f51e57650eef3a12600dc15e4523a0d", func := "kedge/kedgelaw09.DustTx", spec := "dustTx", apart := false }
def DustTxSaid : Prop := dustTxRow.holds Try.pinned (OpenSpec.ofChange dustTxSpec)

/-- ITS FALSE NEIGHBOUR: 'it returns false'. Refute it at one input. -/
def dustTxWrong : ChangeSpec := { name := "dustTx", fn := fun _ => fun
  | [d] => { results := [.lit (.bool false)], args := [d] }
  | _ => none }
def DustTxWrongFalsely : Prop := dustTxRow.holds Try.pinned (OpenSpec.ofChange dustTxWrong)

/- THE SECOND FORM. 'bulk': how many values and letters a reading holds, each counted each time it is reached (what is shared counts as often as it is met; a slice's spare places count too). A statement '..UptoSaid' is the law's where the arguments, and the package variables that the reading takes, are together of bulk at most 1048576: NARROWER than '..Said'. Prove '..Said' where nothing that the law and all that it calls make is longer than what came in: it says more and counts as full. Else prove '..UptoSaid'. A law counts once. -/
mutual
def uptoBulk {H : Type} : DataW H → Nat
  | .lit (.string bytes) => bytes.length + 1
  | .lit _ => 1
  | .nil => 1
  | .ptr d => uptoBulk d + 1
  | .slice elems spare => uptoBulkAll elems + uptoBulkAll spare + 1
  | .agg parts => uptoBulkAll parts + 1
  | .iface _ d => uptoBulk d + 1
  | .map entries => uptoBulkEntries entries + 1
  | .held _ => 1
def uptoBulkAll {H : Type} : List (DataW H) → Nat
  | [] => 0
  | d :: r => uptoBulk d + uptoBulkAll r
def uptoBulkEntries {H : Type} : List (Lit × DataW H) → Nat
  | [] => 0
  | x :: r => uptoBulkEntry x + uptoBulkEntries r
def uptoBulkEntry {H : Type} : Lit × DataW H → Nat
  | (.string bytes, d) => bytes.length + uptoBulk d + 1
  | (_, d) => uptoBulk d + 1
 end
def uptoSmall : (H : Type) → List (DataW H) → Bool := fun _ ds => decide (uptoBulkAll ds ≤ 1048576)
def OpenSpec.upto (s : _root_.Go.ChangeSpec) : _root_.Go.OpenSpec := { _root_.Go.OpenSpec.ofChange s with cond := some uptoSmall }

/-- 'kedgelaw09.DustLeast', WHERE WHAT IT READS IS OF BULK AT MOST 1048576: true; the input reads as it did. -/
def dustLeastUptoRow : OpenClaim := { program := "ytmabfccieoaalaa", sum := "f7d9859b98768056e596f0319f2fe5742f51e57650eef3a12600dc15e4523a0d", func := "kedge/kedgelaw09.DustLeast", spec := "dustLeast", apart := false, narrowed := true }
def DustLeastUptoSaid : Prop := dustLeastUptoRow.holds Try.pinned (OpenSpec.upto dustLeastSpec)

/-- 'kedgelaw09.DustEdge', WHERE WHAT IT READS IS OF BULK AT MOST 1048576: true; the input reads as it did. -/
def dustEdgeUptoRow : OpenClaim := { program := "ytmabfccieoaalaa", sum := "f7d9859b98768056e596f0319f2fe5742f51e57650eef3a12600dc15e4523a0d", func := "kedge/kedgelaw09.DustEdge", spec := "dustEdge", apart := false, narrowed := true }
def DustEdgeUptoSaid : Prop := dustEdgeUptoRow.holds Try.pinned (OpenSpec.upto dustEdgeSpec)

/-- 'kedgelaw09.DustTx', WHERE WHAT IT READS IS OF BULK AT MOST 1048576: true; the input reads as it did. -/
def dustTxUptoRow : OpenClaim := { program := "ytmabfccieoaalaa", sum := "f7d9859b98768056e596f0319f2fe5742f51e57650eef3a12600dc15e4523a0d", func := "kedge/kedgelaw09.DustTx", spec := "dustTx", apart := false, narrowed := true }
def DustTxUptoSaid : Prop := dustTxUptoRow.holds Try.pinned (OpenSpec.upto dustTxSpec)

end Rows
end Go.Proofs.Ytmabfccieoaalaa
