/-
  No cell of these rows narrows 'for every input' (looked for: loops, veiled, ifaces, maps, wideKeys, modest, calm, conditions, laid).
  DERIVED. THE GIVEN ROWS OF THIS SEAT. 4 by the template 'for every input the law returns true; each argument reads behind the call as it read before'; 0 by the template 'total and deterministic' (their statements: YtmdifblaloalpaaTotals.lean).
  GIVEN WITH THE SEED: the statements are not yours to turn. If you find one false, say at which input.
  Laid BY PROGRAM, IN A SANDBOX (cutbox-rows.mjs): the forced cells as the released guide's own fill.sh prints them over the translation f46d13f658a7d944… (all of the seat's roots in one cut). By AI agents, Wed Nov 11 2026. No macro, syntax, notation, axiom, sorry.
-/
import Derived.Test.YtmdifblaloalpaaChecked
import GoSem.Claim
import GoSem.ClaimJoined
import GoSem.ClaimMapViews
import Derived.JoinedTies
import Derived.KernelRfl
namespace Go.Proofs.Ytmdifblaloalpaa
/- THE CELL 'sum', in the pinned program and in every row, IS THE sha256 OF THE DUMP (.gsa) THAT YtmdifblaloalpaaProg.lean LOADS. Nothing in Lean hashes anything: it is a label: what it is worth is what the hold of that sum in a sandbox is worth. -/
noncomputable def Try.pinned : Pinned := { name := "ytmdifblaloalpaa", sum := "f46d13f658a7d9445204eb46f4605916011f2025e20f42843e459e2ca3cc9104", checked := Try.checked }
namespace Rows
def none {H : Type} : Left H := { results := [], args := [] }

/-- 'kedgelaw03.VintPuts': WHATEVER THE INPUT: true; the input reads as it did. -/
def vintPutsSpec : ChangeSpec := { name := "vintPuts", fn := fun _ => fun
  | [d1, d2, d3] => { results := [.lit (.bool true)], args := [d1, d2, d3] }
  | _ => none }
def vintPutsRow : OpenClaim := { program := "ytmdifblaloalpaa", sum := "f46d13f658a7d9445204eb46f4605916011f2025e20f42843e459e2ca3cc9104", func := "kedge/kedgelaw03.VintPuts", spec := "vintPuts", apart := false }
def VintPutsSaid : Prop := vintPutsRow.holds Try.pinned (OpenSpec.ofChange vintPutsSpec)

/-- ITS FALSE NEIGHBOUR: 'it returns false'. Refute it at one input. -/
def vintPutsWrong : ChangeSpec := { name := "vintPuts", fn := fun _ => fun
  | [d1, d2, d3] => { results := [.lit (.bool false)], args := [d1, d2, d3] }
  | _ => none }
def VintPutsWrongFalsely : Prop := vintPutsRow.holds Try.pinned (OpenSpec.ofChange vintPutsWrong)

/-- 'kedgelaw03.VintGets': WHATEVER THE INPUT: true; the input reads as it did. -/
def vintGetsSpec : ChangeSpec := { name := "vintGets", fn := fun _ => fun
  | [d1, d2] => { results := [.lit (.bool true)], args := [d1, d2] }
  | _ => none }
def vintGetsRow : OpenClaim := { program := "ytmdifblaloalpaa", sum := "f46d13f658a7d9445204eb46f4605916011f2025e20f42843e459e2ca3cc9104", func := "kedge/kedgelaw03.VintGets", spec := "vintGets", apart := false }
def VintGetsSaid : Prop := vintGetsRow.holds Try.pinned (OpenSpec.ofChange vintGetsSpec)

/-- ITS FALSE NEIGHBOUR: 'it returns false'. Refute it at one input. -/
def vintGetsWrong : ChangeSpec := { name := "vintGets", fn := fun _ => fun
  | [d1, d2] => { results := [.lit (.bool false)], args := [d1, d2] }
  | _ => none }
def VintGetsWrongFalsely : Prop := vintGetsRow.holds Try.pinned (OpenSpec.ofChange vintGetsWrong)

/-- 'kedgelaw03.VintOne': WHATEVER THE INPUT: true; the input reads as it did. -/
def vintOneSpec : ChangeSpec := { name := "vintOne", fn := fun _ => fun
  | [d1, d2, d3] => { results := [.lit (.bool true)], args := [d1, d2, d3] }
  | _ => none }
def vintOneRow : OpenClaim := { program := "ytmdifblaloalpaa", sum := "f46d13f658a7d9445204eb46f4605916011f2025e20f42843e459e2ca3cc9104", func := "kedge/kedgelaw03.VintOne", spec := "vintOne", apart := false }
def VintOneSaid : Prop := vintOneRow.holds Try.pinned (OpenSpec.ofChange vintOneSpec)

/-- ITS FALSE NEIGHBOUR: 'it returns false'. Refute it at one input. -/
def vintOneWrong : ChangeSpec := { name := "vintOne", fn := fun _ => fun
  | [d1, d2, d3] => { results := [.lit (.bool false)], args := [d1, d2, d3] }
  | _ => none }
def VintOneWrongFalsely : Prop := vintOneRow.holds Try.pinned (OpenSpec.ofChange vintOneWrong)

/-- 'kedgelaw03.VintRow': WHATEVER THE INPUT: true; the input reads as it did. -/
def vintRowSpec : ChangeSpec := { name := "vintRow", fn := fun _ => fun
  | [d] => { results := [.lit (.bool true)], args := [d] }
  | _ => none }
def vintRowRow : OpenClaim := { program := "ytmdifblaloalpaa", sum := "f46d13f658a7d9445204eb46f4605916011f2025e20f42843e459e2ca3cc9104", func := "kedge/kedgelaw03.VintRow", spec := "vintRow", apart := false }
def VintRowSaid : Prop := vintRowRow.holds Try.pinned (OpenSpec.ofChange vintRowSpec)

/-- ITS FALSE NEIGHBOUR: 'it returns false'. Refute it at one input. -/
def vintRowWrong : ChangeSpec := { name := "vintRow", fn := fun _ => fun
  | [d] => { results := [.lit (.bool false)], args := [d] }
  | _ => none }
def VintRowWrongFalsely : Prop := vintRowRow.holds Try.pinned (OpenSpec.ofChange vintRowWrong)

/- THE SECOND FORM. 'bulk': how many values and letters a reading holds, each counted each time it is reached (what is shared counts as often as it is met; a slice's spare places count too). A statement '..UptoSaid' is the law's where the arguments, and the package variables that the reading takes, are together of bulk at most 1048576: NARROWER than '..Said'. Prove '..Said' where nothing that the law and all that it calls make is longer than what came in: it says more and counts as full. Else prove '..UptoSaid'. A law counts once. -/
mutual
def uptoBulk {H : Type} : DataW H → Nat
  | .lit (.string bytes) => bytes.length + 1
  | .lit _ => 1
  | .nil => 1
  | .ptr d => uptoBulk d + 1
  | .slice elems spare => uptoBulkAll elems + uptoBulkAll spare + 1
  | .agg parts => uptoBulkAll parts + 1
  | .iface _ d => uptoBulk d + 1
  | .map entries => uptoBulkEntries entries + 1
  | .held _ => 1
def uptoBulkAll {H : Type} : List (DataW H) → Nat
  | [] => 0
  | d :: r => uptoBulk d + uptoBulkAll r
def uptoBulkEntries {H : Type} : List (Lit × DataW H) → Nat
  | [] => 0
  | x :: r => uptoBulkEntry x + uptoBulkEntries r
def uptoBulkEntry {H : Type} : Lit × DataW H → Nat
  | (.string bytes, d) => bytes.length + uptoBulk d + 1
  | (_, d) => uptoBulk d + 1
 end
def uptoSmall : (H : Type) → List (DataW H) → Bool := fun _ ds => decide (uptoBulkAll ds ≤ 1048576)
def OpenSpec.upto (s : _root_.Go.ChangeSpec) : _root_.Go.OpenSpec := { _root_.Go.OpenSpec.ofChange s with cond := some uptoSmall }

/-- 'kedgelaw03.VintPuts', WHERE WHAT IT READS IS OF BULK AT MOST 1048576: true; the input reads as it did. -/
def vintPutsUptoRow : OpenClaim := { program := "ytmdifblaloalpaa", sum := "f46d13f658a7d9445204eb46f4605916011f2025e20f42843e459e2ca3cc9104", func := "kedge/kedgelaw03.VintPuts", spec := "vintPuts", apart := false, narrowed := true }
def VintPutsUptoSaid : Prop := vintPutsUptoRow.holds Try.pinned (OpenSpec.upto vintPutsSpec)

/-- 'kedgelaw03.VintGets', WHERE WHAT IT READS IS OF BULK AT MOST 1048576: true; the input reads as it did. -/
def vintGetsUptoRow : OpenClaim := { program := "ytmdifblaloalpaa", sum := "f46d13f658a7d9445204eb46f4605916011f2025e20f42843e459e2ca3cc9104", func := "kedge/kedgelaw03.VintGets", spec := "vintGets", apart := false, narrowed := true }
def VintGetsUptoSaid : Prop := vintGetsUptoRow.holds Try.pinned (OpenSpec.upto vintGetsSpec)

/-- 'kedgelaw03.VintOne', WHERE WHAT IT READS IS OF BULK AT MOST 1048576: true; the input reads as it did. -/
def vintOneUptoRow : OpenClaim := { program := "ytmdifblaloalpaa", sum := "f46d13f658a7d9445204eb46f4605916011f2025e20f42843e459e2ca3cc9104", func := "kedge/kedgelaw03.VintOne", spec := "vintOne", apart := false, narrowed := true }
def VintOneUptoSaid : Prop := vintOneUptoRow.holds Try.pinned (OpenSpec.upto vintOneSpec)

/-- 'kedgelaw03.VintRow', WHERE WHAT IT READS IS OF BULK AT MOST 1048576: true; the input reads as it did. -/
def vintRowUptoRow : OpenClaim := { program := "ytmdifblaloalpaa", sum := "f46d13f658a7d9445204eb46f4605916011f2025e20f42843e459e2ca3cc9104", func := "kedge/kedgelaw03.VintRow", spec := "vintRow", apart := false, narrowed := true }
def VintRowUptoSaid : Prop := vintRowUptoRow.holds Try.pinned (OpenSpec.upto vintRowSpec)

end Rows
end Go.Proofs.Ytmdifblaloalpaa
