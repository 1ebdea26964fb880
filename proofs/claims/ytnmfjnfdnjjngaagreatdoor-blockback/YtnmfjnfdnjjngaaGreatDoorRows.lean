/-
  NARROWER THAN 'FOR EVERY INPUT', by the rows' own cells (each row's printed sentence says how): BlockPlays: laid · BlockRaw: laid · BlockBack: laid · BlockState: laid · BlockValues: laid · BlockParts: laid.
  DERIVED. THE GIVEN ROWS OF THIS SEAT. 6 by the template 'for every input the law returns true; each argument reads behind the call as it read before'; 0 by the template 'total and deterministic' (their statements: YtnmfjnfdnjjngaaGreatDoorTotals.lean).
  GIVEN WITH THE SEED: the statements are not yours to turn. If you find one false, say at which input.
  Laid BY PROGRAM, IN A SANDBOX (cutbox-rows.mjs): the forced cells as the released guide's own fill.sh prints them over the translation a0061f745f5a5e58… (all of the seat's roots in one cut). By AI agents, Wed Nov 11 2026. No macro, syntax, notation, axiom, sorry.
-/
import Derived.Test.YtnmfjnfdnjjngaaGreatDoorChecked
import GoSem.Claim
import GoSem.ClaimJoined
import GoSem.ClaimMapViews
import Derived.JoinedTies
import Derived.KernelRfl
namespace Go.Proofs.YtnmfjnfdnjjngaaGreatDoor
/- THE CELL 'sum', in the pinned program and in every row, IS THE sha256 OF THE DUMP (.gsa) THAT YtnmfjnfdnjjngaaGreatDoorProg.lean LOADS. Nothing in Lean hashes anything: it is a label: what it is worth is what the hold of that sum in a sandbox is worth. -/
noncomputable def Tryz.pinned : Pinned := { name := "ytnmfjnfdnjjngaagreatdoor", sum := "a0061f745f5a5e58cd876be876d8f535b807e03a5c653c0cbbc35015060484c8", checked := Tryz.checked }
namespace Rows
def none {H : Type} : Left H := { results := [], args := [] }

/- WHAT THE LISTED PACKAGE-LEVEL VARIABLES READ AS WHEN THE CALL BEGINS. Each datum BY PROGRAM (the guide's laid-datum.mjs) off the statement by which the dump's own 'gosem.cut.vars' lays the variable. In a bare row this is a premise. The card (YtnmfjnfdnjjngaaGreatDoorCards.lean) ties it to the program's text. -/
def laid_kedge_sha_beginning {H : Type} : DataW H := .agg [.lit (.int .u32 1779033703), .lit (.int .u32 3144134277), .lit (.int .u32 1013904242), .lit (.int .u32 2773480762), .lit (.int .u32 1359893119), .lit (.int .u32 2600822924), .lit (.int .u32 528734635), .lit (.int .u32 1541459225)]
def laid_kedge_sha_keys {H : Type} : DataW H := .agg [.lit (.int .u32 1116352408), .lit (.int .u32 1899447441), .lit (.int .u32 3049323471), .lit (.int .u32 3921009573), .lit (.int .u32 961987163), .lit (.int .u32 1508970993), .lit (.int .u32 2453635748), .lit (.int .u32 2870763221), .lit (.int .u32 3624381080), .lit (.int .u32 310598401), .lit (.int .u32 607225278), .lit (.int .u32 1426881987), .lit (.int .u32 1925078388), .lit (.int .u32 2162078206), .lit (.int .u32 2614888103), .lit (.int .u32 3248222580), .lit (.int .u32 3835390401), .lit (.int .u32 4022224774), .lit (.int .u32 264347078), .lit (.int .u32 604807628), .lit (.int .u32 770255983), .lit (.int .u32 1249150122), .lit (.int .u32 1555081692), .lit (.int .u32 1996064986), .lit (.int .u32 2554220882), .lit (.int .u32 2821834349), .lit (.int .u32 2952996808), .lit (.int .u32 3210313671), .lit (.int .u32 3336571891), .lit (.int .u32 3584528711), .lit (.int .u32 113926993), .lit (.int .u32 338241895), .lit (.int .u32 666307205), .lit (.int .u32 773529912), .lit (.int .u32 1294757372), .lit (.int .u32 1396182291), .lit (.int .u32 1695183700), .lit (.int .u32 1986661051), .lit (.int .u32 2177026350), .lit (.int .u32 2456956037), .lit (.int .u32 2730485921), .lit (.int .u32 2820302411), .lit (.int .u32 3259730800), .lit (.int .u32 3345764771), .lit (.int .u32 3516065817), .lit (.int .u32 3600352804), .lit (.int .u32 4094571909), .lit (.int .u32 275423344), .lit (.int .u32 430227734), .lit (.int .u32 506948616), .lit (.int .u32 659060556), .lit (.int .u32 883997877), .lit (.int .u32 958139571), .lit (.int .u32 1322822218), .lit (.int .u32 1537002063), .lit (.int .u32 1747873779), .lit (.int .u32 1955562222), .lit (.int .u32 2024104815), .lit (.int .u32 2227730452), .lit (.int .u32 2361852424), .lit (.int .u32 2428436474), .lit (.int .u32 2756734187), .lit (.int .u32 3204031479), .lit (.int .u32 3329325298)]
def laid_errors_errorType {H : Type} : DataW H := .iface "internal/reflectlite.rtype" (.agg [.ptr (.lit (.string [101, 114, 114, 111, 114]))])

/-- 'kedgelaw12.BlockPlays': WHATEVER THE INPUT: true; the input reads as it did. -/
def blockPlaysSpec : ChangeSpec := { name := "blockPlays", fn := fun _ => fun
  | [d1, d2] => { results := [.lit (.bool true)], args := [d1, d2] }
  | _ => none }
def blockPlaysRow : OpenClaim := { program := "ytnmfjnfdnjjngaagreatdoor", sum := "a0061f745f5a5e58cd876be876d8f535b807e03a5c653c0cbbc35015060484c8", func := "kedge/kedgelaw12.BlockPlays", spec := "blockPlays", inPlace := ["internal/abi.NoEscape", "internal/reflectlite.ValueOf", "(internal/reflectlite.Value).Type", "(internal/reflectlite.Value).IsNil", "internal/reflectlite.TypeOf", "(internal/reflectlite.Value).Elem", "(internal/reflectlite.Value).Set"], unfollowed := true, recurses := true, named := ["kedge/sha.beginning", "kedge/sha.keys", "errors.errorType"], plainKeys := false, apart := false, laid := [("kedge/sha.beginning", laid_kedge_sha_beginning), ("kedge/sha.keys", laid_kedge_sha_keys), ("errors.errorType", laid_errors_errorType)] }
def BlockPlaysSaid : Prop := blockPlaysRow.holds Tryz.pinned (OpenSpec.ofChange blockPlaysSpec)

/-- ITS FALSE NEIGHBOUR: 'it returns false'. Refute it at one input. -/
def blockPlaysWrong : ChangeSpec := { name := "blockPlays", fn := fun _ => fun
  | [d1, d2] => { results := [.lit (.bool false)], args := [d1, d2] }
  | _ => none }
def BlockPlaysWrongFalsely : Prop := blockPlaysRow.holds Tryz.pinned (OpenSpec.ofChange blockPlaysWrong)

/-- 'kedgelaw12.BlockRaw': WHATEVER THE INPUT: true; the input reads as it did. -/
def blockRawSpec : ChangeSpec := { name := "blockRaw", fn := fun _ => fun
  | [d1, d2] => { results := [.lit (.bool true)], args := [d1, d2] }
  | _ => none }
def blockRawRow : OpenClaim := { program := "ytnmfjnfdnjjngaagreatdoor", sum := "a0061f745f5a5e58cd876be876d8f535b807e03a5c653c0cbbc35015060484c8", func := "kedge/kedgelaw12.BlockRaw", spec := "blockRaw", inPlace := ["internal/abi.NoEscape", "internal/reflectlite.TypeOf", "internal/reflectlite.ValueOf", "(internal/reflectlite.Value).Type", "(internal/reflectlite.Value).IsNil", "(internal/reflectlite.Value).Elem", "(internal/reflectlite.Value).Set"], unfollowed := true, recurses := true, named := ["kedge/sha.beginning", "kedge/sha.keys", "errors.errorType"], plainKeys := false, apart := false, laid := [("kedge/sha.beginning", laid_kedge_sha_beginning), ("kedge/sha.keys", laid_kedge_sha_keys), ("errors.errorType", laid_errors_errorType)] }
def BlockRawSaid : Prop := blockRawRow.holds Tryz.pinned (OpenSpec.ofChange blockRawSpec)

/-- ITS FALSE NEIGHBOUR: 'it returns false'. Refute it at one input. -/
def blockRawWrong : ChangeSpec := { name := "blockRaw", fn := fun _ => fun
  | [d1, d2] => { results := [.lit (.bool false)], args := [d1, d2] }
  | _ => none }
def BlockRawWrongFalsely : Prop := blockRawRow.holds Tryz.pinned (OpenSpec.ofChange blockRawWrong)

/-- 'kedgelaw12.BlockBack': WHATEVER THE INPUT: true; the input reads as it did. -/
def blockBackSpec : ChangeSpec := { name := "blockBack", fn := fun _ => fun
  | [d] => { results := [.lit (.bool true)], args := [d] }
  | _ => none }
def blockBackRow : OpenClaim := { program := "ytnmfjnfdnjjngaagreatdoor", sum := "a0061f745f5a5e58cd876be876d8f535b807e03a5c653c0cbbc35015060484c8", func := "kedge/kedgelaw12.BlockBack", spec := "blockBack", inPlace := ["maps.clone", "internal/abi.NoEscape", "internal/reflectlite.TypeOf", "internal/reflectlite.ValueOf", "(internal/reflectlite.Value).Type", "(internal/reflectlite.Value).IsNil", "(internal/reflectlite.Value).Elem", "(internal/reflectlite.Value).Set"], unfollowed := true, recurses := true, named := ["kedge/sha.beginning", "kedge/sha.keys", "errors.errorType"], plainKeys := false, apart := false, laid := [("kedge/sha.beginning", laid_kedge_sha_beginning), ("kedge/sha.keys", laid_kedge_sha_keys), ("errors.errorType", laid_errors_errorType)] }
def BlockBackSaid : Prop := blockBackRow.holds Tryz.pinned (OpenSpec.ofChange blockBackSpec)

/-- ITS FALSE NEIGHBOUR: 'it returns false'. Refute it at one input. -/
def blockBackWrong : ChangeSpec := { name := "blockBack", fn := fun _ => fun
  | [d] => { results := [.lit (.bool false)], args := [d] }
  | _ => none }
def BlockBackWrongFalsely : Prop := blockBackRow.holds Tryz.pinned (OpenSpec.ofChange blockBackWrong)

/-- 'kedgelaw12.BlockState': WHATEVER THE INPUT: true; the input reads as it did. -/
def blockStateSpec : ChangeSpec := { name := "blockState", fn := fun _ => fun
  | [d1, d2] => { results := [.lit (.bool true)], args := [d1, d2] }
  | _ => none }
def blockStateRow : OpenClaim := { program := "ytnmfjnfdnjjngaagreatdoor", sum := "a0061f745f5a5e58cd876be876d8f535b807e03a5c653c0cbbc35015060484c8", func := "kedge/kedgelaw12.BlockState", spec := "blockState", inPlace := ["internal/abi.NoEscape", "internal/reflectlite.TypeOf", "internal/reflectlite.ValueOf", "(internal/reflectlite.Value).Type", "(internal/reflectlite.Value).IsNil", "(internal/reflectlite.Value).Elem", "(internal/reflectlite.Value).Set"], unfollowed := true, recurses := true, named := ["kedge/sha.beginning", "kedge/sha.keys", "errors.errorType"], plainKeys := false, apart := false, laid := [("kedge/sha.beginning", laid_kedge_sha_beginning), ("kedge/sha.keys", laid_kedge_sha_keys), ("errors.errorType", laid_errors_errorType)] }
def BlockStateSaid : Prop := blockStateRow.holds Tryz.pinned (OpenSpec.ofChange blockStateSpec)

/-- ITS FALSE NEIGHBOUR: 'it returns false'. Refute it at one input. -/
def blockStateWrong : ChangeSpec := { name := "blockState", fn := fun _ => fun
  | [d1, d2] => { results := [.lit (.bool false)], args := [d1, d2] }
  | _ => none }
def BlockStateWrongFalsely : Prop := blockStateRow.holds Tryz.pinned (OpenSpec.ofChange blockStateWrong)

/-- 'kedgelaw12.BlockValues': WHATEVER THE INPUT: true; the input reads as it did. -/
def blockValuesSpec : ChangeSpec := { name := "blockValues", fn := fun _ => fun
  | [d] => { results := [.lit (.bool true)], args := [d] }
  | _ => none }
def blockValuesRow : OpenClaim := { program := "ytnmfjnfdnjjngaagreatdoor", sum := "a0061f745f5a5e58cd876be876d8f535b807e03a5c653c0cbbc35015060484c8", func := "kedge/kedgelaw12.BlockValues", spec := "blockValues", inPlace := ["internal/abi.NoEscape", "internal/reflectlite.TypeOf", "internal/reflectlite.ValueOf", "(internal/reflectlite.Value).Type", "(internal/reflectlite.Value).IsNil", "(internal/reflectlite.Value).Elem", "(internal/reflectlite.Value).Set"], unfollowed := true, recurses := true, named := ["kedge/sha.beginning", "kedge/sha.keys", "errors.errorType"], plainKeys := false, apart := false, laid := [("kedge/sha.beginning", laid_kedge_sha_beginning), ("kedge/sha.keys", laid_kedge_sha_keys), ("errors.errorType", laid_errors_errorType)] }
def BlockValuesSaid : Prop := blockValuesRow.holds Tryz.pinned (OpenSpec.ofChange blockValuesSpec)

/-- ITS FALSE NEIGHBOUR: 'it returns false'. Refute it at one input. -/
def blockValuesWrong : ChangeSpec := { name := "blockValues", fn := fun _ => fun
  | [d] => { results := [.lit (.bool false)], args := [d] }
  | _ => none }
def BlockValuesWrongFalsely : Prop := blockValuesRow.holds Tryz.pinned (OpenSpec.ofChange blockValuesWrong)

/-- 'kedgelaw12.BlockParts': WHATEVER THE INPUT: true; the input reads as it did. -/
def blockPartsSpec : ChangeSpec := { name := "blockParts", fn := fun _ => fun
  | [d1, d2] => { results := [.lit (.bool true)], args := [d1, d2] }
  | _ => none }
def blockPartsRow : OpenClaim := { program := "ytnmfjnfdnjjngaagreatdoor", sum := "a0061f745f5a5e58cd876be876d8f535b807e03a5c653c0cbbc35015060484c8", func := "kedge/kedgelaw12.BlockParts", spec := "blockParts", inPlace := ["internal/abi.NoEscape", "internal/reflectlite.TypeOf", "internal/reflectlite.ValueOf", "(internal/reflectlite.Value).Type", "(internal/reflectlite.Value).IsNil", "(internal/reflectlite.Value).Elem", "(internal/reflectlite.Value).Set", "maps.clone"], unfollowed := true, recurses := true, named := ["kedge/sha.beginning", "kedge/sha.keys", "errors.errorType"], plainKeys := false, apart := false, laid := [("kedge/sha.beginning", laid_kedge_sha_beginning), ("kedge/sha.keys", laid_kedge_sha_keys), ("errors.errorType", laid_errors_errorType)] }
def BlockPartsSaid : Prop := blockPartsRow.holds Tryz.pinned (OpenSpec.ofChange blockPartsSpec)

/-- ITS FALSE NEIGHBOUR: 'it returns false'. Refute it at one input. -/
def blockPartsWrong : ChangeSpec := { name := "blockParts", fn := fun _ => fun
  | [d1, d2] => { results := [.lit (.bool false)], args := [d1, d2] }
  | _ => none }
def BlockPartsWrongFalsely : Prop := blockPartsRow.holds Tryz.pinned (OpenSpec.ofChange blockPartsWrong)

/- THE SECOND FORM. 'bulk': how many values and letters a reading holds, each counted each time it is reached (what is shared counts as often as it is met; a slice's spare places count too). A statement '..UptoSaid' is the law's where the arguments, and the package variables that the reading takes, are together of bulk at most 1048576: NARROWER than '..Said'. Prove '..Said' where nothing that the law and all that it calls make is longer than what came in: it says more and counts as full. Else prove '..UptoSaid'. A law counts once. -/
mutual
def uptoBulk {H : Type} : DataW H → Nat
  | .lit (.string bytes) => bytes.length + 1
  | .lit _ => 1
  | .nil => 1
  | .ptr d => uptoBulk d + 1
  | .slice elems spare => uptoBulkAll elems + uptoBulkAll spare + 1
  | .agg parts => uptoBulkAll parts + 1
  | .iface _ d => uptoBulk d + 1
  | .map entries => uptoBulkEntries entries + 1
  | .held _ => 1
def uptoBulkAll {H : Type} : List (DataW H) → Nat
  | [] => 0
  | d :: r => uptoBulk d + uptoBulkAll r
def uptoBulkEntries {H : Type} : List (Lit × DataW H) → Nat
  | [] => 0
  | x :: r => uptoBulkEntry x + uptoBulkEntries r
def uptoBulkEntry {H : Type} : Lit × DataW H → Nat
  | (.string bytes, d) => bytes.length + uptoBulk d + 1
  | (_, d) => uptoBulk d + 1
 end
def uptoSmall : (H : Type) → List (DataW H) → Bool := fun _ ds => decide (uptoBulkAll ds ≤ 1048576)
def OpenSpec.upto (s : _root_.Go.ChangeSpec) : _root_.Go.OpenSpec := { _root_.Go.OpenSpec.ofChange s with cond := some uptoSmall }

/-- 'kedgelaw12.BlockPlays', WHERE WHAT IT READS IS OF BULK AT MOST 1048576: true; the input reads as it did. -/
def blockPlaysUptoRow : OpenClaim := { program := "ytnmfjnfdnjjngaagreatdoor", sum := "a0061f745f5a5e58cd876be876d8f535b807e03a5c653c0cbbc35015060484c8", func := "kedge/kedgelaw12.BlockPlays", spec := "blockPlays", inPlace := ["internal/abi.NoEscape", "internal/reflectlite.ValueOf", "(internal/reflectlite.Value).Type", "(internal/reflectlite.Value).IsNil", "internal/reflectlite.TypeOf", "(internal/reflectlite.Value).Elem", "(internal/reflectlite.Value).Set"], unfollowed := true, recurses := true, named := ["kedge/sha.beginning", "kedge/sha.keys", "errors.errorType"], plainKeys := false, apart := false, laid := [("kedge/sha.beginning", laid_kedge_sha_beginning), ("kedge/sha.keys", laid_kedge_sha_keys), ("errors.errorType", laid_errors_errorType)], narrowed := true }
def BlockPlaysUptoSaid : Prop := blockPlaysUptoRow.holds Tryz.pinned (OpenSpec.upto blockPlaysSpec)

/-- 'kedgelaw12.BlockRaw', WHERE WHAT IT READS IS OF BULK AT MOST 1048576: true; the input reads as it did. -/
def blockRawUptoRow : OpenClaim := { program := "ytnmfjnfdnjjngaagreatdoor", sum := "a0061f745f5a5e58cd876be876d8f535b807e03a5c653c0cbbc35015060484c8", func := "kedge/kedgelaw12.BlockRaw", spec := "blockRaw", inPlace := ["internal/abi.NoEscape", "internal/reflectlite.TypeOf", "internal/reflectlite.ValueOf", "(internal/reflectlite.Value).Type", "(internal/reflectlite.Value).IsNil", "(internal/reflectlite.Value).Elem", "(internal/reflectlite.Value).Set"], unfollowed := true, recurses := true, named := ["kedge/sha.beginning", "kedge/sha.keys", "errors.errorType"], plainKeys := false, apart := false, laid := [("kedge/sha.beginning", laid_kedge_sha_beginning), ("kedge/sha.keys", laid_kedge_sha_keys), ("errors.errorType", laid_errors_errorType)], narrowed := true }
def BlockRawUptoSaid : Prop := blockRawUptoRow.holds Tryz.pinned (OpenSpec.upto blockRawSpec)

/-- 'kedgelaw12.BlockBack', WHERE WHAT IT READS IS OF BULK AT MOST 1048576: true; the input reads as it did. -/
def blockBackUptoRow : OpenClaim := { program := "ytnmfjnfdnjjngaagreatdoor", sum := "a0061f745f5a5e58cd876be876d8f535b807e03a5c653c0cbbc35015060484c8", func := "kedge/kedgelaw12.BlockBack", spec := "blockBack", inPlace := ["maps.clone", "internal/abi.NoEscape", "internal/reflectlite.TypeOf", "internal/reflectlite.ValueOf", "(internal/reflectlite.Value).Type", "(internal/reflectlite.Value).IsNil", "(internal/reflectlite.Value).Elem", "(internal/reflectlite.Value).Set"], unfollowed := true, recurses := true, named := ["kedge/sha.beginning", "kedge/sha.keys", "errors.errorType"], plainKeys := false, apart := false, laid := [("kedge/sha.beginning", laid_kedge_sha_beginning), ("kedge/sha.keys", laid_kedge_sha_keys), ("errors.errorType", laid_errors_errorType)], narrowed := true }
def BlockBackUptoSaid : Prop := blockBackUptoRow.holds Tryz.pinned (OpenSpec.upto blockBackSpec)

/-- 'kedgelaw12.BlockState', WHERE WHAT IT READS IS OF BULK AT MOST 1048576: true; the input reads as it did. -/
def blockStateUptoRow : OpenClaim := { program := "ytnmfjnfdnjjngaagreatdoor", sum := "a0061f745f5a5e58cd876be876d8f535b807e03a5c653c0cbbc35015060484c8", func := "kedge/kedgelaw12.BlockState", spec := "blockState", inPlace := ["internal/abi.NoEscape", "internal/reflectlite.TypeOf", "internal/reflectlite.ValueOf", "(internal/reflectlite.Value).Type", "(internal/reflectlite.Value).IsNil", "(internal/reflectlite.Value).Elem", "(internal/reflectlite.Value).Set"], unfollowed := true, recurses := true, named := ["kedge/sha.beginning", "kedge/sha.keys", "errors.errorType"], plainKeys := false, apart := false, laid := [("kedge/sha.beginning", laid_kedge_sha_beginning), ("kedge/sha.keys", laid_kedge_sha_keys), ("errors.errorType", laid_errors_errorType)], narrowed := true }
def BlockStateUptoSaid : Prop := blockStateUptoRow.holds Tryz.pinned (OpenSpec.upto blockStateSpec)

/-- 'kedgelaw12.BlockValues', WHERE WHAT IT READS IS OF BULK AT MOST 1048576: true; the input reads as it did. -/
def blockValuesUptoRow : OpenClaim := { program := "ytnmfjnfdnjjngaagreatdoor", sum := "a0061f745f5a5e58cd876be876d8f535b807e03a5c653c0cbbc35015060484c8", func := "kedge/kedgelaw12.BlockValues", spec := "blockValues", inPlace := ["internal/abi.NoEscape", "internal/reflectlite.TypeOf", "internal/reflectlite.ValueOf", "(internal/reflectlite.Value).Type", "(internal/reflectlite.Value).IsNil", "(internal/reflectlite.Value).Elem", "(internal/reflectlite.Value).Set"], unfollowed := true, recurses := true, named := ["kedge/sha.beginning", "kedge/sha.keys", "errors.errorType"], plainKeys := false, apart := false, laid := [("kedge/sha.beginning", laid_kedge_sha_beginning), ("kedge/sha.keys", laid_kedge_sha_keys), ("errors.errorType", laid_errors_errorType)], narrowed := true }
def BlockValuesUptoSaid : Prop := blockValuesUptoRow.holds Tryz.pinned (OpenSpec.upto blockValuesSpec)

/-- 'kedgelaw12.BlockParts', WHERE WHAT IT READS IS OF BULK AT MOST 1048576: true; the input reads as it did. -/
def blockPartsUptoRow : OpenClaim := { program := "ytnmfjnfdnjjngaagreatdoor", sum := "a0061f745f5a5e58cd876be876d8f535b807e03a5c653c0cbbc35015060484c8", func := "kedge/kedgelaw12.BlockParts", spec := "blockParts", inPlace := ["internal/abi.NoEscape", "internal/reflectlite.TypeOf", "internal/reflectlite.ValueOf", "(internal/reflectlite.Value).Type", "(internal/reflectlite.Value).IsNil", "(internal/reflectlite.Value).Elem", "(internal/reflectlite.Value).Set", "maps.clone"], unfollowed := true, recurses := true, named := ["kedge/sha.beginning", "kedge/sha.keys", "errors.errorType"], plainKeys := false, apart := false, laid := [("kedge/sha.beginning", laid_kedge_sha_beginning), ("kedge/sha.keys", laid_kedge_sha_keys), ("errors.errorType", laid_errors_errorType)], narrowed := true }
def BlockPartsUptoSaid : Prop := blockPartsUptoRow.holds Tryz.pinned (OpenSpec.upto blockPartsSpec)

end Rows
end Go.Proofs.YtnmfjnfdnjjngaaGreatDoor
